"""From a code's text to its arrays and instructions, or to the position where it goes wrong."""

from lanemachine.limits import LARGEST, MASKS, MOST_AROUND, MOST_ARRAYS, MOST_INSTRUCTIONS, MOST_LENGTH
from lanemachine.limits import SCALARS, VECTORS
from lanemachine.operators import OF_ONE, OF_TWO
from lanemachine.scan import FormError, decimal, token_at

# What stands behind an instruction's word, a sign for each part: v, s, m, a are one of the vector
# registers, scalar registers, masks and arrays; n is a number with or without _; o is an operator of two
# operands; @ is a place; ? is a mask that may be left out.
SHAPES = {
    "lanes": "v?",
    "const": "vn?",
    "fill": "vs?",
    "copy": "vv?",
    "read": "vav?",
    "pick": "vav@?",
    "write": "avv?",
    "test": "mv?",
    "tail": "ms",
    "both": "mmm",
    "less": "mmm",
    "either": "mmm",
    "count": "sm",
    "num": "sn",
    "width": "s",
    "calc": "osss@",
    "get": "svs",
    "put": "vss",
    "for": "ss",
    "when": "s",
    "raise": "",
}
SHAPE_OF_ONE = "vv@?"
SHAPE_OF_TWO = "vvv@?"


class Instruction:
    """One instruction: what is to be done, and the parts of its plain text."""

    def __init__(self, action, operator, parts):
        self.action = action
        self.operator = operator
        self.parts = parts
        self.operands = []
        self.place = 0
        self.mask = None
        self.body = []
        self.otherwise = []


class Code:
    """The arrays' lengths, the instructions that stand in no { }, and how many there are in all."""

    def __init__(self):
        self.lengths = []
        self.body = []
        self.size = 0


class Reader:
    """A text, the token whose turn it is, and the code that has been read so far."""

    def __init__(self, text):
        self.text = text
        self.token = token_at(text, 0)
        self.code = Code()

    def advance(self):
        self.token = token_at(self.text, self.token.end)

    def refuse_unless(self, fits):
        if not fits:
            raise FormError(self.token.start)

    def pass_by(self, text):
        self.refuse_unless(self.token.text == text)
        self.advance()

    def number_up_to(self, most):
        number = decimal(self.token.text, most)
        self.refuse_unless(number is not None)
        self.advance()
        return number


def how_many(reader, letter):
    if letter == "v":
        return VECTORS
    if letter == "s":
        return SCALARS
    if letter == "m":
        return MASKS
    return len(reader.code.lengths)


def read_named(reader, letter):
    """The number of what is told: one of the registers, masks or arrays."""
    word = reader.token.text
    number = decimal(word[1:], how_many(reader, letter) - 1)
    reader.refuse_unless(word[:1] == letter and number is not None)
    reader.advance()
    return number


def read_operator(reader, told):
    told.operator = reader.token.text
    reader.refuse_unless(told.operator in OF_TWO)
    told.parts.append(told.operator)
    reader.advance()


def read_signed(reader, told):
    below = reader.token.text == "_"
    if below:
        reader.advance()
    distance = reader.number_up_to(LARGEST)
    number = -distance if below else distance
    # By the number, not by its spelling: _0 tells 0, which is not below 0.
    told.parts.append(f"_{distance}" if number < 0 else f"{distance}")
    told.operands.append(number)


def read_place(reader, told):
    reader.pass_by("@")
    told.place = reader.number_up_to(LARGEST)
    told.parts.append("@" + str(told.place))


def read_mask(reader, told):
    if reader.token.text != "?":
        return
    reader.advance()
    told.mask = read_named(reader, "m")
    told.parts.append("?m" + str(told.mask))


def read_part(reader, part, told):
    if part == "o":
        read_operator(reader, told)
    elif part == "n":
        read_signed(reader, told)
    elif part == "@":
        read_place(reader, told)
    elif part == "?":
        read_mask(reader, told)
    else:
        number = read_named(reader, part)
        told.parts.append(part + str(number))
        told.operands.append(number)


def shape_of(word):
    if word in OF_ONE:
        return SHAPE_OF_ONE
    if word in OF_TWO:
        return SHAPE_OF_TWO
    return SHAPES.get(word)


def instruction_of(word):
    if word in OF_ONE:
        return Instruction("one", word, [word])
    if word in OF_TWO:
        return Instruction("two", word, [word])
    return Instruction(word, "", [word])


def read_block(reader, around):
    """The instructions of a { } that stands in as many others as around tells."""
    reader.refuse_unless(around <= MOST_AROUND)
    reader.pass_by("{")
    body = []
    while reader.token.text != "}":
        body.append(read_instruction(reader, around + 1))
    reader.advance()
    return body


def read_ending(reader, told, around):
    if told.action != "for" and told.action != "when":
        reader.pass_by(";")
        return
    told.body = read_block(reader, around)
    if told.action == "when" and reader.token.text == "else":
        reader.advance()
        told.otherwise = read_block(reader, around)


def read_instruction(reader, around):
    word = reader.token.text
    shape = shape_of(word)
    reader.refuse_unless(shape is not None and reader.code.size < MOST_INSTRUCTIONS)
    reader.code.size = reader.code.size + 1
    told = instruction_of(word)
    reader.advance()
    for part in shape:
        read_part(reader, part, told)
    read_ending(reader, told, around)
    return told


def read_array(reader):
    reader.refuse_unless(len(reader.code.lengths) < MOST_ARRAYS)
    reader.advance()
    reader.code.lengths.append(reader.number_up_to(MOST_LENGTH))
    reader.pass_by(";")


def read_code(text):
    """The code that the text tells; FormError if it tells none."""
    reader = Reader(text)
    while reader.token.text == "array":
        read_array(reader)
    while reader.token.text != "":
        reader.code.body.append(read_instruction(reader, 0))
    return reader.code
