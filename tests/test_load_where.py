"""Promises 1 and 2: which texts load takes, and the position that where tells of the others."""

import unittest

from tests.support import FORM, LONG, OPERATORS, ask, ask_last, load, plain, plain_of, run, set_array, where, width

ONE = ["neg", "abs", "sign", "not"]

# Each instruction of the grammar, its tokens parted by blanks; a mask may follow those of the first list.
MASKED = (["lanes v0", "const v1 7", "const v1 _ 7", "fill v2 s3", "copy v4 v5", "read v6 a0 v7",
           "pick v8 a1 v9 @ 3", "write a0 v10 v11", "test m1 v12"]
          + [f"{word} v13 v14 @ 5" for word in ONE] + [f"{word} v0 v1 v15 @ 6" for word in OPERATORS])
UNMASKED = (["tail m0 s1", "both m2 m3 m4", "less m5 m6 m7", "either m0 m0 m0", "count s4 m1", "num s5 8",
             "num s5 _ 8", "width s6", "get s7 v0 s8", "put v1 s9 s10", "raise"]
            + [f"calc {word} s11 s12 s13 @ 9" for word in OPERATORS])
BLOCKS = ["for s0 s1 { }", "for s14 s15 { raise ; width s0 ; }", "when s2 { }", "when s3 { raise ; }",
          "when s3 { raise ; } else { }", "when s3 { } else { width s1 ; raise ; }"]
WHOLE = [text + " ;" for text in MASKED] + [text + " ? m3 ;" for text in MASKED] + [text + " ;" for text in UNMASKED]
HEAD = "array 2;array 3;"


def judged(text):
    return ask(load(text), where(text))


class Taken(unittest.TestCase):
    def assert_code(self, text, arrays, instructions):
        self.assertEqual(judged(text), [[arrays, instructions], [0, 0]], text)

    def assert_refused(self, text, position):
        self.assertEqual(judged(text), [FORM, [2, position]], text)

    def assert_wrong_at(self, before, wrong):
        self.assert_refused(before + wrong, len(before))


class TestGrammar(Taken):
    def test_the_empty_text_is_a_code(self):
        self.assert_code("", 0, 0)

    def test_arrays_alone(self):
        self.assert_code("array 0;array 1024;array 7;", 3, 0)

    def test_each_instruction(self):
        for text in WHOLE:
            self.assert_code(HEAD + text, 2, 1)

    def test_blocks_count_their_instructions(self):
        counts = [ask_last(load(text)) for text in BLOCKS]
        self.assertEqual(counts, [[0, 1], [0, 3], [0, 1], [0, 2], [0, 2], [0, 3]])

    def test_a_mask_where_none_may_be_told(self):
        for text in UNMASKED:
            self.assert_wrong_at(HEAD + text, "? m1;")

    def test_ends_too_early_behind_each_token(self):
        for text in WHOLE + BLOCKS:
            tokens = text.split()
            for kept in range(1, len(tokens)):
                begun = HEAD + " ".join(tokens[:kept])
                if begun.endswith("}"):
                    continue
                self.assert_refused(begun, len(begun))
                self.assert_refused(begun + " \n# gone", len(begun) + 8)

    def test_each_token_wrong(self):
        for text in WHOLE + BLOCKS:
            tokens = text.split()
            for at in range(len(tokens)):
                before = HEAD + "".join(token + " " for token in tokens[:at])
                self.assert_wrong_at(before, "$ " + " ".join(tokens[at + 1:]))
                self.assert_wrong_at(before, "v99 ;")

    def test_one_token_more(self):
        for text in UNMASKED:
            self.assert_wrong_at(HEAD + text + " ", "s0;")
            self.assert_wrong_at(HEAD + text + " ; ", ";")

    def test_ends_within_the_arrays(self):
        for text in ["array", "array 3", "array 3 \t", "array 3; array"]:
            self.assert_refused(text, len(text))

    def test_a_word_cut_short_is_another_word(self):
        self.assert_wrong_at("raise; ", "rais")
        self.assert_wrong_at("", "arra")

    def test_wrong_words(self):
        for before, wrong in [("", ";"), ("", "@"), ("", "{"), ("", "}"), ("", "12"), ("", "v0"), ("", "else"),
                              ("", "array3;"), ("array ", "x;"), ("array ", "_3;"), ("array 3", ","),
                              ("lanes ", "s0;"), ("fill v0 ", "v1;"), ("read v0 ", "v1 v2;"), ("test ", "v0 v0;"),
                              ("calc ", "neg s0 s0 s0 @0;"), ("calc ", "s0 s0 s0 @0;"), ("const v0 ", "s0;"),
                              ("const v0 _", "_1;"), ("add v0 v0 v0 @", "_1;"), ("add v0 v0 v0", ";"),
                              ("neg v0 v0 ", "v0 @1;"), ("pick ", "a0 v0 @1;"), ("lanes v0?", "v1;"),
                              ("lanes v0 ?m0 ", "?m1;"), ("add v0 v0 v0 ", "?m0 @1;")]:
            self.assert_wrong_at(before, wrong)

    def test_an_array_behind_an_instruction(self):
        self.assert_wrong_at("array 1;raise;", "array 1;")

    def test_else_stands_behind_a_when_only(self):
        self.assert_wrong_at("for s0 s1 {} ", "else {}")
        self.assert_wrong_at("when s0 {} else {} ", "else {}")
        self.assert_wrong_at("when s0 {raise;", "else {}")
        self.assert_wrong_at("when s0 {}", "; else {}")

    def test_closing_without_opening(self):
        self.assert_wrong_at("raise;", "}")
        self.assert_wrong_at("for s0 s1 {}", "}")

    def test_no_semicolon_behind_a_block(self):
        self.assert_wrong_at("for s0 s1 {}", ";")


class TestTokens(Taken):
    def test_the_four_blanks_and_no_other(self):
        self.assert_code(" \t\n\rraise \t\n\r;\r", 0, 1)
        for byte in [0, 1, 8, 11, 12, 14, 28, 31, 127, 133, 160, 255]:
            self.assert_refused([32, byte] + list(b"raise;"), 1)

    def test_bytes_at_which_no_token_begins(self):
        for sign in "!\"$%&'()*+,-./:<=>[\\]^`|~ABYZ":
            self.assert_wrong_at("raise;", sign)
        self.assert_wrong_at("raise", "Z;")

    def test_remarks(self):
        self.assert_code("#", 0, 0)
        self.assert_code("# array 3;\nraise;#", 0, 1)
        self.assert_code("raise# to be\n;", 0, 1)
        self.assert_code(list(b"raise;#") + [0, 13, 200, 255, 35] + list(b"\nraise;"), 0, 2)
        self.assert_code("# \r raise;", 0, 0)

    def test_a_remark_parts_words(self):
        self.assert_code("lanes#\nv0;", 0, 1)
        self.assert_wrong_at("lanes#\n", "v#\n0;")

    def test_tokens_need_no_blank_between_where_they_part_themselves(self):
        self.assertEqual(plain_of("array 3;const v0_5?m1;add v0 v1 v2@7?m2;when s0{raise;}else{raise;}"),
                         "array 3;\nconst v0 _5 ?m1;\nadd v0 v1 v2 @7 ?m2;\n"
                         "when s0 {\nraise;\n} else {\nraise;\n}\n")

    def test_blanks_within_masks_places_and_numbers(self):
        self.assertEqual(plain_of("const v0 _ 5 ? m1 ;neg v0 v1 @ 7 ;"), "const v0 _5 ?m1;\nneg v0 v1 @7;\n")

    def test_a_number_ends_at_the_first_other_byte(self):
        self.assert_wrong_at("num s0 5", "abc;")
        self.assert_code("num s0 5#\n;", 0, 1)

    def test_words_take_all_letters_and_digits(self):
        self.assert_wrong_at("copy ", "v0v1;")
        self.assert_wrong_at("", "raise1;")

    def test_a_zero_ahead(self):
        for before, wrong in [("array ", "00;"), ("array ", "01;"), ("num s0 ", "007;"), ("num s0 _", "00;"),
                              ("neg v0 v0 @", "01;")]:
            self.assert_wrong_at(before, wrong)
        self.assert_code("array 0;num s0 0;num s0 _0;neg v0 v0 @0;", 1, 3)

    def test_the_largest_number(self):
        big = "1" + "0" * 18
        self.assert_code(f"num s0 {big};num s0 _{big};const v0 {big};neg v0 v0 @{big};", 0, 4)
        for wrong in ["1" + "0" * 17 + "1", "2" + "0" * 18, "1" + "0" * 19, "9" * 16000]:
            for before in ["num s0 ", "num s0 _", "neg v0 v0 @", "const v0 ", "array "]:
                self.assert_wrong_at(before, wrong + ";")

    def test_no_token_begins_comes_behind_what_was_wrong_before(self):
        self.assert_wrong_at("array ", "2000 $")
        self.assert_wrong_at("raise ", "v0 00")
        self.assert_wrong_at("lanes ", "v16$")


class TestNames(Taken):
    def test_registers_that_there_are(self):
        self.assert_code("".join(f"copy v{k} v{k};num s{k} 1;" for k in range(16)), 0, 32)
        self.assert_code("".join(f"both m{k} m{k} m{k};lanes v0 ?m{k};" for k in range(8)), 0, 16)

    def test_registers_that_there_are_not(self):
        for wrong in ["v16", "v17", "v99", "v100", "v" + "1" * 5000, "v", "v00", "v01", "v015", "v1a", "va", "vv1"]:
            self.assert_wrong_at("lanes ", wrong + ";")
            self.assert_wrong_at("copy v0 ", wrong + ";")
        for wrong in ["s16", "s", "s00", "s3x", "s1000000000000000000000"]:
            self.assert_wrong_at("width ", wrong + ";")
            self.assert_wrong_at("for s0 ", wrong + " {}")
            self.assert_wrong_at("when ", wrong + " {}")
        for wrong in ["m8", "m9", "m10", "m", "m07", "mm"]:
            self.assert_wrong_at("count s0 ", wrong + ";")
            self.assert_wrong_at("lanes v0 ?", wrong + ";")

    def test_arrays_that_there_are(self):
        arrays = "array 1;" * 32
        self.assert_code(arrays + "".join(f"read v0 a{k} v1;write a{k} v0 v1;" for k in range(32)), 32, 64)

    def test_arrays_that_there_are_not(self):
        self.assert_wrong_at("read v0 ", "a0 v0;")
        self.assert_wrong_at("array 5;read v0 ", "a1 v0;")
        self.assert_wrong_at("array 5;pick v0 ", "a1 v0 @1;")
        self.assert_wrong_at("array 5;write ", "a1 v0 v0;")
        self.assert_wrong_at("array 1;" * 11 + "write ", "a11 v0 v0;")
        self.assert_wrong_at("array 1;" * 32 + "write ", "a32 v0 v0;")
        for wrong in ["a", "a00", "a01", "a0x", "a" + "0" * 5000]:
            self.assert_wrong_at("array 5;array 5;write ", wrong + " v0 v0;")


class TestLimits(Taken):
    def test_how_many_bytes(self):
        self.assert_code(" " * 16384, 0, 0)
        self.assert_code("raise;" + " " * 16378, 0, 1)
        self.assertEqual(judged(" " * 16385), [LONG, [1, 0]])
        self.assertEqual(judged("raise;" + " " * 16379), [LONG, [1, 0]])

    def test_long_comes_before_form(self):
        self.assertEqual(judged("$" * 16385), [LONG, [1, 0]])
        self.assertEqual(judged([200] * 16900), [LONG, [1, 0]])

    def test_the_greatest_position(self):
        self.assert_refused("raise" + " " * 16379, 16384)
        self.assert_refused(" " * 16383 + "$", 16383)

    def test_how_many_arrays(self):
        self.assert_code("array 2;" * 32, 32, 0)
        self.assert_wrong_at("array 2;" * 32, "array 2;")
        self.assert_wrong_at("array 2;" * 32, "array")

    def test_how_long_an_array(self):
        self.assert_code("array 1024;", 1, 0)
        self.assert_wrong_at("array ", "1025;")
        self.assert_wrong_at("array 3; array ", "1000000000000000000;")

    def test_how_many_instructions(self):
        self.assert_code("raise;" * 512, 0, 512)
        self.assert_wrong_at("raise;" * 512, "raise;")
        self.assert_wrong_at("raise;" * 512, "for s0 s1 {}")
        self.assert_wrong_at("raise;" * 512, "raise")

    def test_instructions_in_blocks_are_counted(self):
        full = "for s0 s1 {" + "raise;" * 200 + "when s0 {" + "raise;" * 200 + "} else {" + "raise;" * 110
        self.assert_code(full + "}}", 0, 512)
        self.assert_wrong_at(full, "raise;}}")
        self.assert_wrong_at(full + "}", "raise;}")
        self.assert_wrong_at(full + "}}", "raise;")

    def test_how_deep_blocks_stand(self):
        for opening in ["for s0 s1 ", "when s0 "]:
            self.assert_code((opening + "{") * 8 + "raise;" + "}" * 8, 0, 9)
            self.assert_wrong_at((opening + "{") * 8 + opening, "{" + "}" * 9)
        self.assert_wrong_at("when s0 {" * 8 + "when s1 ", "{} else {}" + "}" * 8)

    def test_an_else_is_as_deep_as_its_when(self):
        self.assert_code("when s0 {" * 7 + "when s1 {} else {raise;}" + "}" * 7, 0, 9)
        self.assert_code("when s0 {} else {" * 8 + "}" * 8, 0, 8)
        self.assert_wrong_at("when s0 {} else {" * 8 + "when s0 ", "{}")

    def test_depth_is_of_blocks_around_not_of_blocks_before(self):
        self.assert_code("for s0 s1 {}" * 100, 0, 100)

    def test_very_many_opening_signs(self):
        text = "for s0 s1{" * 1600
        self.assert_refused(text, 8 * 10 + 9)


class TestWhatIsKept(unittest.TestCase):
    SHOW = "array 2;lanes v0;read v1 a0 v0;num s0 1;get s1 v1 s0;for s2 s1 {}"

    def test_a_refused_text_leaves_the_machine_as_it_was(self):
        two = width(2)
        kept = set_array(0, [5, 7])
        for refused, answer in [("array 1;raise", FORM), ("$", FORM), (" " * 16385, LONG)]:
            self.assertEqual(ask(two, load(self.SHOW), kept, plain(), run(), load(refused), plain(), run())[3:],
                             [[0] + list(plain_of(self.SHOW).encode()), [0, 12], answer,
                              [0] + list(plain_of(self.SHOW).encode()), [0, 12]])

    def test_a_refused_text_is_no_code(self):
        self.assertEqual(ask(load("raise"), plain(), run(), set_array(0, [])), [FORM, [-3], [-3], [-3]])

    def test_where_changes_nothing(self):
        self.assertEqual(ask(where("raise;"), plain()), [[0, 0], [-3]])
        for text in ["raise;", "raise", " " * 16385]:
            self.assertEqual(ask(width(2), load(self.SHOW), set_array(0, [5, 7]), where(text), run())[-1], [0, 12])

    def test_load_makes_all_arrays_zeros(self):
        self.assertEqual(ask(width(2), load(self.SHOW), set_array(0, [5, 7]), load(self.SHOW), run())[-1], [0, 5])

    def test_load_keeps_the_width(self):
        code = load("width s0;for s1 s0 {}")
        self.assertEqual(ask(code, run(), width(9), code, run())[1::3], [[0, 6], [0, 11]])


if __name__ == "__main__":
    unittest.main()
