"""Promise 6, the operators: in lanes, where a refusal fails the lane, and in calc, where it is a stop."""

import unittest

from tests.support import BIG, DOMAIN, LARGEST, ZERO, Probe, ask_last, lanes_code, load, run, told

BIGGEST = LARGEST
# The operator, its operands, what it answers.
OF_TWO = [
    ("add", 2, 3, 5), ("add", -2, 2, 0), ("add", BIGGEST, 0, BIGGEST), ("add", BIGGEST - 1, 1, BIGGEST),
    ("add", BIGGEST, -BIGGEST, 0), ("add", 1 - BIGGEST, -1, -BIGGEST),
    ("sub", 2, 3, -1), ("sub", 3, 2, 1), ("sub", -BIGGEST, -BIGGEST, 0), ("sub", 0, BIGGEST, -BIGGEST),
    ("sub", -1, BIGGEST - 1, -BIGGEST), ("sub", BIGGEST - 1, -1, BIGGEST),
    ("mul", 6, -7, -42), ("mul", -6, -7, 42), ("mul", 0, BIGGEST, 0), ("mul", BIGGEST, -1, -BIGGEST),
    ("mul", 10 ** 9, 10 ** 9, BIGGEST), ("mul", -10 ** 9, 10 ** 9, -BIGGEST),
    ("quo", 7, 2, 3), ("quo", -7, 2, -4), ("quo", 7, -2, -4), ("quo", -7, -2, 3), ("quo", 6, 3, 2),
    ("quo", -6, 3, -2), ("quo", 6, -3, -2), ("quo", 0, 5, 0), ("quo", 1, -BIGGEST, -1), ("quo", -1, BIGGEST, -1),
    ("quo", -BIGGEST, -1, BIGGEST), ("quo", BIGGEST, 1, BIGGEST), ("quo", BIGGEST, 3, 333333333333333333),
    ("quo", -BIGGEST, 3, -333333333333333334),
    ("rem", 7, 2, 1), ("rem", -7, 2, 1), ("rem", 7, -2, -1), ("rem", -7, -2, -1), ("rem", 6, 3, 0),
    ("rem", -6, -3, 0), ("rem", 0, 5, 0), ("rem", 1, -BIGGEST, 1 - BIGGEST), ("rem", -1, BIGGEST, BIGGEST - 1),
    ("min", 2, 3, 2), ("min", 3, 2, 2), ("min", -3, 2, -3), ("min", 4, 4, 4), ("min", -BIGGEST, BIGGEST, -BIGGEST),
    ("max", 2, 3, 3), ("max", 3, 2, 3), ("max", -3, -4, -3), ("max", 4, 4, 4), ("max", -BIGGEST, BIGGEST, BIGGEST),
    ("lt", 1, 2, 1), ("lt", 2, 2, 0), ("lt", 3, 2, 0), ("lt", -5, -4, 1),
    ("le", 1, 2, 1), ("le", 2, 2, 1), ("le", 3, 2, 0), ("le", -4, -5, 0),
    ("eq", 1, 2, 0), ("eq", 2, 2, 1), ("eq", 3, 2, 0), ("eq", BIGGEST, BIGGEST - 1, 0),
    ("ne", 1, 2, 1), ("ne", 2, 2, 0), ("ne", 3, 2, 1), ("ne", BIGGEST, BIGGEST - 1, 1),
    ("and", 0, 0, 0), ("and", 0, 1, 0), ("and", 1, 0, 0), ("and", 1, 1, 1),
    ("or", 0, 0, 0), ("or", 0, 1, 1), ("or", 1, 0, 1), ("or", 1, 1, 1),
]
REFUSED_OF_TWO = [
    ("add", BIGGEST, 1, BIG), ("add", 1, BIGGEST, BIG), ("add", -BIGGEST, -1, BIG), ("add", BIGGEST, BIGGEST, BIG),
    ("sub", BIGGEST, -1, BIG), ("sub", -BIGGEST, 1, BIG), ("sub", -1, BIGGEST, BIG), ("sub", 1, -BIGGEST, BIG),
    ("mul", BIGGEST, 2, BIG), ("mul", BIGGEST, -2, BIG), ("mul", 10 ** 9, 10 ** 9 + 1, BIG),
    ("mul", -10 ** 9 - 1, 10 ** 9, BIG), ("mul", -BIGGEST, -BIGGEST, BIG),
    ("quo", 5, 0, ZERO), ("quo", 0, 0, ZERO), ("quo", -BIGGEST, 0, ZERO),
    ("rem", 5, 0, ZERO), ("rem", 0, 0, ZERO), ("rem", BIGGEST, 0, ZERO),
    ("and", 0, 2, DOMAIN), ("and", 2, 0, DOMAIN), ("and", -1, 1, DOMAIN), ("and", 1, -1, DOMAIN), ("and", 3, 3, DOMAIN),
    ("or", 1, 2, DOMAIN), ("or", 2, 1, DOMAIN), ("or", -1, 0, DOMAIN), ("or", 0, BIGGEST, DOMAIN),
]
OF_ONE = [
    ("neg", 0, 0), ("neg", 5, -5), ("neg", -5, 5), ("neg", BIGGEST, -BIGGEST), ("neg", -BIGGEST, BIGGEST),
    ("abs", 0, 0), ("abs", 5, 5), ("abs", -5, 5), ("abs", -BIGGEST, BIGGEST),
    ("sign", 0, 0), ("sign", 1, 1), ("sign", -1, -1), ("sign", 5, 1), ("sign", -5, -1),
    ("sign", BIGGEST, 1), ("sign", -BIGGEST, -1),
    ("not", 0, 1), ("not", 1, 0),
]
REFUSED_OF_ONE = [("not", 2, DOMAIN), ("not", -1, DOMAIN), ("not", BIGGEST, DOMAIN), ("not", -BIGGEST, DOMAIN)]


class TestByTheSteps(unittest.TestCase):
    """A Probe trusts eq and quo; here the rounds of a for show what is worked out, without them."""

    def test_each_operator(self):
        for word, a, b, expected in OF_TWO:
            if abs(expected) > 100:
                continue
            rounds = max(expected, 0)
            nums = f"num s1 {told(a)};num s2 {told(b)};"
            self.assertEqual(ask_last(load(nums + f"calc {word} s3 s1 s2 @5;for s4 s3 {{}}"), run()), [0, 4 + rounds])
            code = nums + f"fill v1 s1;fill v2 s2;{word} v3 v1 v2 @5;get s3 v3 s0;for s4 s3 {{}}"
            self.assertEqual(ask_last(load(code), run()), [0, 7 + rounds], code)


class TestCalc(unittest.TestCase):
    def test_what_is_worked_out(self):
        for word, a, b, expected in OF_TWO:
            code = f"num s1 {told(a)};num s2 {told(b)};calc {word} s3 s1 s2 @5;"
            self.assertEqual(Probe(code).scalar(3, expected).scalar(1, a).scalar(2, b).answer()[0], 0, code)

    def test_refusals_are_stops(self):
        for word, a, b, kind in REFUSED_OF_TWO:
            code = f"num s1 {told(a)};num s2 {told(b)};calc {word} s3 s1 s2 @77;num s1 0;calc quo s1 s1 s1 @88;"
            self.assertEqual(ask_last(load(code), run()), [1, kind, 77], code)

    def test_the_place_of_a_stop(self):
        for place in [0, 1, LARGEST]:
            self.assertEqual(ask_last(load(f"calc quo s0 s1 s2 @{place};"), run()), [1, ZERO, place])

    def test_registers_are_read_before_they_are_written(self):
        code = "num s1 5;num s2 3;calc sub s1 s1 s2 @0;calc sub s2 s1 s2 @0;calc add s2 s2 s2 @0;"
        self.assertEqual(Probe(code).scalar(1, 2).scalar(2, -2).answer()[0], 0)


class TestInLanes(unittest.TestCase):
    def test_what_is_worked_out(self):
        for word, a, b, expected in OF_TWO:
            code = lanes_code(1, [a, 0]) + lanes_code(2, [b, 1]) + f"{word} v3 v1 v2 @5;"
            self.assertEqual(Probe(code).lane(3, 0, expected).lane(1, 0, a).lane(2, 0, b).answer(2)[0], 0, code)

    def test_what_is_worked_out_of_one(self):
        for word, a, expected in OF_ONE:
            code = lanes_code(1, [0, a]) + f"{word} v3 v1 @5;"
            self.assertEqual(Probe(code).lane(3, 1, expected).lane(1, 1, a).answer(2)[0], 0, code)

    def test_a_refusal_fails_its_lane_and_leaves_what_it_held(self):
        for word, a, b, kind in REFUSED_OF_TWO:
            code = lanes_code(1, [1, a, 0]) + lanes_code(2, [1, b, 1]) + f"const v3 33;{word} v3 v1 v2 @77;"
            self.assertEqual(Probe(code).lane(3, 1, 33).answer(3), [1, kind, 77], code)

    def test_a_refusal_of_one_fails_its_lane(self):
        for word, a, kind in REFUSED_OF_ONE:
            code = lanes_code(1, [1, a, 0]) + f"const v3 33;{word} v3 v1 @78;"
            self.assertEqual(Probe(code).vector(3, [0, 33, 1]).answer(3), [1, kind, 78], code)

    def test_each_lane_by_itself(self):
        code = lanes_code(1, [8, 9, 10, 11, 12]) + lanes_code(2, [2, 0, 5, 0, 3]) + "const v3 7;quo v3 v1 v2 @4;"
        self.assertEqual(Probe(code).vector(3, [4, 7, 2, 7, 4]).answer(5), [1, ZERO, 4])

    def test_registers_are_read_before_they_are_written(self):
        code = "lanes v1;add v1 v1 v1 @0;const v2 10;sub v2 v1 v2 @0;neg v2 v2 @0;"
        self.assertEqual(Probe(code).vector(1, [0, 2, 4, 6]).vector(2, [10, 8, 6, 4]).answer()[0], 0)


if __name__ == "__main__":
    unittest.main()
