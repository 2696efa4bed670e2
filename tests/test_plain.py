"""Promise 3: the plain text of a code."""

import random
import unittest

from tests.support import NONE, OPERATORS, ask, ask_last, load, plain, plain_of, run, set_array, where, width

MASKED = (["lanes v0", "const v1 7", "const v1 _7", "fill v2 s3", "copy v4 v5", "read v6 a0 v7",
           "pick v8 a1 v9 @3", "write a0 v10 v11", "test m1 v12"]
          + [f"{word} v13 v14 @5" for word in ["neg", "abs", "sign", "not"]]
          + [f"{word} v0 v1 v15 @6" for word in OPERATORS])
UNMASKED = (["tail m0 s1", "both m2 m3 m4", "less m5 m6 m7", "either m0 m0 m0", "count s4 m1", "num s5 8",
             "num s5 _8", "width s6", "get s7 v0 s8", "put v1 s9 s10", "raise"]
            + [f"calc {word} s11 s12 s13 @1000000000000000000" for word in OPERATORS])
SINGLE = [text + ";" for text in MASKED] + [text + " ?m7;" for text in MASKED] + [text + ";" for text in UNMASKED]
HEAD = "array 2;\narray 3;\n"


def spread(text, chance):
    """The same tokens, each with some blank or remark behind it."""
    for sign in ";{}@?_":
        text = text.replace(sign, " " + sign + " ")
    fillers = [" ", "\t", "\n", "\r\n", "  ", "# x;{ \xe9\n", " #\n\n"]
    return "".join(token + chance.choice(fillers) for token in text.split()).encode("latin-1")


class TestPlain(unittest.TestCase):
    def test_none_before_a_code_is_loaded(self):
        self.assertEqual(ask(plain()), [NONE])
        self.assertEqual(ask(width(3), load("$"), plain())[-1], NONE)

    def test_of_the_empty_code(self):
        self.assertEqual(ask_last(load(" # nothing"), plain()), [0])

    def test_arrays(self):
        self.assertEqual(plain_of("array 3;array\n0 ; array 1024;"), "array 3;\narray 0;\narray 1024;\n")

    def test_the_documents_pieces(self):
        self.assertEqual(plain_of("array 3 ;add v0 v0 v1@7?m0;const v2 _ 5;for s4 s3{}"),
                         "array 3;\nadd v0 v0 v1 @7 ?m0;\nconst v2 _5;\nfor s4 s3 {\n}\n")

    def test_each_instruction(self):
        chance = random.Random(3)
        for text in SINGLE:
            code = HEAD + text + "\n"
            self.assertEqual(plain_of(code), code)
            self.assertEqual(plain_of(spread(code, chance)), code)

    def test_numbers(self):
        big = "1000000000000000000"
        for number in ["0", "1", "_1", "10", big, "_" + big]:
            self.assertEqual(plain_of(f"num s0 {number};const v0 {number}?m1;"),
                             f"num s0 {number};\nconst v0 {number} ?m1;\n")

    def test_zero_has_no_sign(self):
        for zero in ["_0", "_ 0", "_# none\n0", "0"]:
            self.assertEqual(plain_of(f"num s7 {zero};const v0 {zero};const v3 {zero} ?m1;"),
                             "num s7 0;\nconst v0 0;\nconst v3 0 ?m1;\n")
        self.assertEqual(plain_of("for s0 s1{when s2{num s0 _0;}else{const v1 _0;num s0 _10;}}"),
                         "for s0 s1 {\nwhen s2 {\nnum s0 0;\n} else {\nconst v1 0;\nnum s0 _10;\n}\n}\n")

    def test_the_sign_of_zero_changes_nothing_else(self):
        for zero in ["_0", "0"]:
            self.assertEqual(ask(load(f"num s7 {zero};const v0 {zero};"), where(f"num s7 {zero};"), run()),
                             [[0, 2], [0, 0], [0, 2]])

    def test_for(self):
        self.assertEqual(plain_of("for s0 s1 { raise ; for s2 s3 { } width s4 ; }"),
                         "for s0 s1 {\nraise;\nfor s2 s3 {\n}\nwidth s4;\n}\n")

    def test_when_without_an_else(self):
        self.assertEqual(plain_of("when s1 {raise;}raise;"), "when s1 {\nraise;\n}\nraise;\n")
        self.assertEqual(plain_of("when s1 {}"), "when s1 {\n}\n")

    def test_when_with_an_else(self):
        self.assertEqual(plain_of("when s1 {raise;}else{width s0;raise;}raise;"),
                         "when s1 {\nraise;\n} else {\nwidth s0;\nraise;\n}\nraise;\n")
        self.assertEqual(plain_of("when s1 {}else{raise;}"), "when s1 {\n} else {\nraise;\n}\n")

    def test_when_with_an_else_that_has_no_instruction(self):
        self.assertEqual(plain_of("when s1 {raise;}else{}raise;"), "when s1 {\nraise;\n}\nraise;\n")
        self.assertEqual(plain_of("when s1 {}else{ # none\n}"), "when s1 {\n}\n")

    def test_an_else_with_an_instruction_that_has_none_itself(self):
        self.assertEqual(plain_of("when s1 {}else{when s2 {}else{}}"),
                         "when s1 {\n} else {\nwhen s2 {\n}\n}\n")

    def test_nested_as_deep_as_may_be(self):
        self.assertEqual(plain_of("for s0 s1{when s2{}else{" * 4 + "raise;" + "}}" * 4),
                         "for s0 s1 {\nwhen s2 {\n} else {\n" * 4 + "raise;\n" + "}\n}\n" * 4)

    def test_the_plain_text_is_its_own_plain_text(self):
        chance = random.Random(5)
        for count in range(40):
            code = HEAD + "".join(random_lines(chance, 0, 8))
            self.assertEqual(plain_of(spread(code, chance)), code)
            self.assertEqual(plain_of(code), code)

    def test_it_changes_nothing(self):
        code = "array 1;read v1 a0 v0;num s0 0;get s1 v1 s0;for s2 s1 {}"
        self.assertEqual(ask(load(code), set_array(0, [6]), plain(), run(), plain(), run())[-3::2], [[0, 10], [0, 10]])


def random_lines(chance, depth, most):
    lines = []
    for count in range(chance.randint(1, most)):
        way = chance.randint(0, 5) if depth < 8 else 5
        if way == 0:
            lines += ["for s4 s3 {\n"] + random_lines(chance, depth + 1, 2) + ["}\n"]
        elif way == 1:
            lines += ["when s1 {\n"] + random_lines(chance, depth + 1, 2) + ["}\n"]
        elif way == 2:
            lines += (["when s1 {\n"] + random_lines(chance, depth + 1, 2) + ["} else {\n"]
                      + random_lines(chance, depth + 1, 2) + ["}\n"])
        else:
            lines.append(chance.choice(SINGLE) + "\n")
    return lines


if __name__ == "__main__":
    unittest.main()
