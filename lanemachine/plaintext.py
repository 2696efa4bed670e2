"""Texts that the machine writes: a code's plain text and the map of an operator, as bytes."""


def to_bytes(text):
    return [ord(sign) for sign in text]


def block_lines(body):
    lines = []
    for told in body:
        lines.extend(instruction_lines(told))
    return lines


def instruction_lines(told):
    """The lines of one instruction; { } stand in few others, so this may call itself."""
    head = " ".join(told.parts)
    if told.action != "for" and told.action != "when":
        return [head + ";"]
    lines = [head + " {"]
    lines.extend(block_lines(told.body))
    if len(told.otherwise) > 0:
        lines.append("} else {")
        lines.extend(block_lines(told.otherwise))
    lines.append("}")
    return lines


def plain_text(code):
    lines = [f"array {length};" for length in code.lengths]
    lines.extend(block_lines(code.body))
    return to_bytes("".join([line + "\n" for line in lines]))


def map_text(operator, length, place):
    """Code that works an operator for each element of a0 and a1, strip by strip, into a2."""
    array = f"array {length};"
    begin = (
        f"num s1 {length};"
        + "width s0;num s2 1;calc add s3 s1 s0 @0;calc sub s3 s3 s2 @0;calc quo s3 s3 s0 @0;"
    )
    each_strip = (
        "calc mul s5 s4 s0 @0;fill v0 s5;lanes v1;add v0 v0 v1 @0;calc sub s6 s1 s5 @0;tail m0 s6;"
        + "read v2 a0 v0 ?m0;read v3 a1 v0 ?m0;"
        + f"{operator} v4 v2 v3 @{place} ?m0;"
        + "write a2 v0 v4 ?m0;raise;"
    )
    return to_bytes(array + array + array + begin + "for s4 s3 {" + each_strip + "}")
