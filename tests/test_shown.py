"""Promises 7 to 10: what the calls array, vector, scalar and mask tell of what the other calls left."""

import unittest

from tests.support import ABSENT, DATA, FORM, LARGEST, LIMIT, LONG, NONE, STEPS, ZERO, array_of, ask, ask_last
from tests.support import lanes_code, load, map_of, mask_code, mask_of, plain, run, scalar_of, set_array, told
from tests.support import vector_of, where, width

FAR_OUTSIDE = [LARGEST, LARGEST - 1, -LARGEST, 1 - LARGEST]
ALL_VECTORS = [vector_of(k) for k in range(16)]
ALL_SCALARS = [scalar_of(k) for k in range(16)]
ALL_MASKS = [mask_of(k) for k in range(8)]


def all_zero(lanes):
    """For each list of calls that shows one kind of register, what it answers at a run's beginning."""
    zeros = [0] + [0] * lanes
    return [(ALL_VECTORS, [zeros] * 16), (ALL_SCALARS, [[0, 0]] * 16), (ALL_MASKS, [zeros] * 8)]


class TestArray(unittest.TestCase):
    THREE = load("array 3;array 0;array 2;")

    def test_none_comes_first(self):
        for n in [0, 1, -1, 31, 32] + FAR_OUTSIDE:
            self.assertEqual(ask(array_of(n)), [NONE])
            self.assertEqual(ask(width(2), load("$"), where("array 1;"), array_of(n))[-1], NONE)

    def test_absent(self):
        for arrays in [0, 1, 3, 32]:
            code = load("array 2;" * arrays)
            for n in [-1, -2, -arrays - 1, arrays, arrays + 1, 32, 33] + FAR_OUTSIDE:
                self.assertEqual(ask_last(code, array_of(n)), ABSENT, (arrays, n))

    def test_the_last_that_there_is(self):
        for arrays in [1, 3, 32]:
            self.assertEqual(ask_last(load("array 2;" * arrays), array_of(arrays - 1)), [0, 0, 0])

    def test_an_array_without_numbers(self):
        self.assertEqual(ask(self.THREE, array_of(1), set_array(1, []), array_of(1), run(), array_of(1))[1:],
                         [[0], [0], [0], [0, 0], [0]])

    def test_after_load_all_are_zeros(self):
        self.assertEqual(ask(self.THREE, array_of(0), array_of(1), array_of(2))[1:], [[0, 0, 0, 0], [0], [0, 0, 0]])
        self.assertEqual(ask_last(load("array 1024;"), array_of(0)), [0] + [0] * 1024)
        self.assertEqual(ask_last(self.THREE, set_array(0, [1, 2, 3]), self.THREE, array_of(0)), [0, 0, 0, 0])

    def test_a_load_brings_other_arrays(self):
        rows = ask(self.THREE, set_array(0, [1, 2, 3]), load("array 5;"), array_of(0), array_of(1),
                   load(""), array_of(0))
        self.assertEqual(rows[3:], [[0] + [0] * 5, ABSENT, [0, 0], ABSENT])

    def test_after_set(self):
        numbers = [LARGEST, -LARGEST, -1]
        self.assertEqual(ask(self.THREE, set_array(0, numbers), array_of(0), array_of(2), set_array(2, [8, 9]),
                             array_of(0), array_of(2), set_array(0, [4, 5, 6]), array_of(0))[2:],
                         [[0] + numbers, [0, 0, 0], [0], [0] + numbers, [0, 8, 9], [0], [0, 4, 5, 6]])

    def test_the_longest(self):
        numbers = [LARGEST - k for k in range(1024)]
        self.assertEqual(ask_last(load("array 1024;"), set_array(0, numbers), array_of(0)), [0] + numbers)

    def test_after_a_refused_set(self):
        kept = [0, 5, 6, 7]
        for n, data, refusal in [(0, [1, 2], DATA), (0, [1, 2, 3, 4], DATA), (0, [], DATA), (3, [1, 2, 3], ABSENT),
                                 (-1, [1, 2], ABSENT), (-3, [1, 2, 3], ABSENT), (0, [1, 2, LARGEST + 1], DATA)]:
            rows = ask(self.THREE, set_array(0, [5, 6, 7]), set_array(n, data), array_of(0), array_of(1), array_of(2))
            self.assertEqual(rows[2:], [refusal, kept, [0], [0, 0, 0]])

    def test_after_a_refused_load(self):
        for text, refusal in [("array 1", FORM), ("array 1;array 1025;", FORM), (" " * 16385, LONG)]:
            rows = ask(self.THREE, set_array(0, [5, 6, 7]), load(text),
                       array_of(0), array_of(1), array_of(2), array_of(3))
            self.assertEqual(rows[2:], [refusal, [0, 5, 6, 7], [0], [0, 0, 0], ABSENT])

    def test_after_width(self):
        for n, answer in [(1, [0]), (2, [0]), (16, [0]), (0, LIMIT), (17, LIMIT)]:
            self.assertEqual(ask(self.THREE, set_array(0, [5, 6, 7]), width(n), array_of(0), array_of(2))[2:],
                             [answer, [0, 5, 6, 7], [0, 0, 0]])

    def test_after_a_run_that_ends_well(self):
        code = load("array 4;array 4;lanes v1;read v2 a0 v1;add v2 v2 v2 @0;write a1 v1 v2;")
        rows = ask(code, set_array(0, [5, -6, 7, 8]), run(), array_of(0), array_of(1),
                   width(2), set_array(0, [1, 1, 1, 1]), run(), array_of(0), array_of(1))
        self.assertEqual(rows[3:5], [[0, 5, -6, 7, 8], [0, 10, -12, 14, 16]])
        self.assertEqual(rows[8:], [[0, 1, 1, 1, 1], [0, 2, 2, 14, 16]])

    def test_after_a_run_that_stops(self):
        # a1 tells which way the run ends, behind what it writes into a0.
        code = load("array 2;array 1;lanes v1;num s1 2;tail m1 s1;const v2 9;write a0 v1 v2 ?m1;read v3 a1 v0;"
                    "num s0 0;get s3 v3 s0;for s4 s3 {}calc quo s5 s3 s3 @6;")
        rows = ask(code, set_array(0, [3, 4]), run(), array_of(0), array_of(1), set_array(1, [1]), run(9), array_of(0),
                   run(11), array_of(0), set_array(0, [1, 2]), set_array(1, [0]), run(), array_of(0), array_of(1))
        self.assertEqual(rows[2:5], [[1, ZERO, 6], [0, 3, 4], [0, 0]])
        self.assertEqual(rows[6:10], [[1, STEPS, 0], [0, 3, 4], [0, 11], [0, 9, 9]])
        self.assertEqual(rows[12:], [[1, ZERO, 6], [0, 1, 2], [0, 0]])

    def test_after_a_refused_run(self):
        code = load("array 1;const v1 9;write a0 v0 v1;")
        self.assertEqual(ask(code, set_array(0, [3]), run(-1), array_of(0), run(100001), array_of(0))[2:],
                         [LIMIT, [0, 3], LIMIT, [0, 3]])

    def test_calls_that_only_tell_change_nothing(self):
        for call in [where("raise;"), where("$"), plain(), map_of(0, 3, 0), array_of(0), array_of(9), vector_of(0),
                     scalar_of(0), mask_of(0), mask_of(8)]:
            self.assertEqual(ask_last(self.THREE, set_array(0, [5, 6, 7]), call, array_of(0)), [0, 5, 6, 7])


class TestVector(unittest.TestCase):
    def test_absent(self):
        for k in [-1, -2, -16, -17, 16, 17, 32] + FAR_OUTSIDE:
            self.assertEqual(ask(vector_of(k)), [ABSENT])
            self.assertEqual(ask_last(load("lanes v0;lanes v15;"), run(), vector_of(k)), ABSENT)

    def test_each_by_its_number(self):
        code = load("".join(f"const v{k} {told(k * 3 - 7)};" for k in range(16)))
        for lanes in [1, 4, 16]:
            rows = ask(width(lanes), code, run(), *ALL_VECTORS)[3:]
            self.assertEqual(rows, [[0] + [k * 3 - 7] * lanes for k in range(16)])

    def test_each_lane_in_order(self):
        for lanes in [1, 4, 16]:
            numbers = [LARGEST, -LARGEST, 0, 5, -5, 6, 7, 8, 9, 10, 11, 12, 13, 14, 15, -16][:lanes]
            self.assertEqual(ask_last(width(lanes), load(lanes_code(9, numbers)), run(), vector_of(9)), [0] + numbers)
            self.assertEqual(ask_last(width(lanes), load("lanes v3;"), run(), vector_of(3)), [0] + list(range(lanes)))

    def test_what_another_vector_holds_is_not_told(self):
        code = load("lanes v1;copy v2 v1;const v1 4;")
        self.assertEqual(ask(code, run(), vector_of(0), vector_of(1), vector_of(2))[2:],
                         [[0, 0, 0, 0, 0], [0, 4, 4, 4, 4], [0, 0, 1, 2, 3]])


class TestScalar(unittest.TestCase):
    def test_absent(self):
        for k in [-1, -2, -16, -17, 16, 17, 32] + FAR_OUTSIDE:
            self.assertEqual(ask(scalar_of(k)), [ABSENT])
            self.assertEqual(ask_last(load("num s0 1;num s15 1;"), run(), scalar_of(k)), ABSENT)

    def test_each_by_its_number(self):
        code = load("".join(f"num s{k} {told(k * 3 - 7)};" for k in range(16)))
        for lanes in [1, 4, 16]:
            self.assertEqual(ask(width(lanes), code, run(), *ALL_SCALARS)[3:], [[0, k * 3 - 7] for k in range(16)])

    def test_the_edges_of_numbers(self):
        code = load(f"num s1 {LARGEST};num s2 _{LARGEST};num s3 _0;")
        self.assertEqual(ask(code, run(), scalar_of(1), scalar_of(2), scalar_of(3))[2:],
                         [[0, LARGEST], [0, -LARGEST], [0, 0]])

    def test_what_instructions_leave(self):
        code = load("num s1 3;tail m1 s1;count s2 m1;width s3;calc mul s4 s2 s3 @0;lanes v1;num s5 2;get s6 v1 s5;"
                    "for s7 s1 {}when s8 {num s9 1;} else {num s9 2;}")
        self.assertEqual(ask(width(5), code, run(), *ALL_SCALARS)[3:13],
                         [[0, 0], [0, 3], [0, 3], [0, 5], [0, 15], [0, 2], [0, 2], [0, 2], [0, 0], [0, 2]])


class TestMask(unittest.TestCase):
    def test_absent(self):
        for k in [-1, -2, -8, -9, 8, 9, 15, 16] + FAR_OUTSIDE:
            self.assertEqual(ask(mask_of(k)), [ABSENT])
            self.assertEqual(ask_last(load("lanes v0;test m0 v0;test m7 v0;"), run(), mask_of(k)), ABSENT)

    def test_each_by_its_number(self):
        code = load("".join(f"num s1 {k};tail m{k} s1;" for k in range(8)))
        for lanes in [1, 4, 16]:
            rows = ask(width(lanes), code, run(), *ALL_MASKS)[3:]
            self.assertEqual(rows, [[0] + [int(lane < k) for lane in range(lanes)] for k in range(8)])

    def test_each_lane_in_order(self):
        for lanes in [1, 4, 16]:
            for on in [[1, 0, 0, 1] * 4, [0, 1, 1, 0] * 4, [0] * 16, [1] * 16, [0] * 15 + [1]]:
                answer = ask_last(width(lanes), load(mask_code(3, on[:lanes])), run(), mask_of(3))
                self.assertEqual(answer, [0] + on[:lanes])

    def test_on_is_told_by_1_whatever_was_tested(self):
        code = load(lanes_code(1, [0, 7, -1, LARGEST]) + "test m2 v1;")
        self.assertEqual(ask_last(code, run(), mask_of(2)), [0, 0, 1, 1, 1])

    def test_what_instructions_leave(self):
        code = load(mask_code(1, [0, 0, 1, 1]) + mask_code(2, [0, 1, 0, 1])
                    + "both m3 m1 m2;less m4 m1 m2;either m5 m1 m2;")
        self.assertEqual(ask(code, run(), *ALL_MASKS[1:6])[2:],
                         [[0, 0, 0, 1, 1], [0, 0, 1, 0, 1], [0, 0, 0, 0, 1], [0, 0, 0, 1, 0], [0, 0, 1, 1, 1]])


class TestAllRegisters(unittest.TestCase):
    # Each vector, scalar and mask holds something behind this, at every width.
    SOMETHING = ("".join(f"const v{k} {k + 20};num s{k} {k + 40};" for k in range(16))
                 + "".join(f"test m{k} v0;" for k in range(8)))

    def something(self, lanes):
        return [(ALL_VECTORS, [[0] + [k + 20] * lanes for k in range(16)]),
                (ALL_SCALARS, [[0, k + 40] for k in range(16)]),
                (ALL_MASKS, [[0] + [1] * lanes for k in range(8)])]

    def assert_shown(self, calls, expected):
        for shown, answers_expected in expected:
            self.assertEqual(ask(*calls, *shown)[len(calls):], answers_expected)

    def test_without_a_code(self):
        self.assert_shown([], all_zero(4))
        for lanes in [1, 4, 16]:
            self.assert_shown([width(lanes)], all_zero(lanes))
        self.assert_shown([width(16), width(17), load("$")], all_zero(16))

    def test_what_a_run_left(self):
        for lanes in [1, 4, 16]:
            self.assert_shown([width(lanes), load(self.SOMETHING), run()], self.something(lanes))

    def test_after_load(self):
        for lanes in [1, 4, 16]:
            loaded = [width(lanes), load(self.SOMETHING)]
            self.assert_shown(loaded, all_zero(lanes))
            self.assert_shown(loaded + [run(), load(self.SOMETHING)], all_zero(lanes))
            self.assert_shown(loaded + [run(), load("")], all_zero(lanes))

    def test_after_width(self):
        for before, lanes in [(4, 4), (1, 16), (16, 1), (4, 16), (16, 4)]:
            self.assert_shown([width(before), load(self.SOMETHING), run(), width(lanes)], all_zero(lanes))
            self.assert_shown([width(before), load(self.SOMETHING), run(), width(lanes), run()], self.something(lanes))

    def test_after_refusals(self):
        ran = [width(16), load(self.SOMETHING), run()]
        for call in [load("raise"), load(" " * 16385), width(0), width(17), set_array(0, []), run(-1), run(100001),
                     array_of(0), vector_of(16), scalar_of(16), mask_of(8), map_of(13, 0, 0)]:
            self.assert_shown(ran + [call], self.something(16))

    def test_after_calls_that_only_tell(self):
        ran = [width(16), load("array 1;" + self.SOMETHING), run()]
        for call in [where("raise;"), where("raise"), plain(), array_of(0), vector_of(0), scalar_of(0), mask_of(0),
                     map_of(0, 0, 0)]:
            self.assert_shown(ran + [call], self.something(16))

    def test_set_leaves_the_registers(self):
        self.assert_shown([load("array 1;" + self.SOMETHING), run(), set_array(0, [3])], self.something(4))

    def test_a_run_that_stops_leaves_nothing(self):
        for stop, answer in [("calc quo s0 s1 s15 @7;", [1, ZERO, 7]),
                             ("sub v1 v0 v0 @3;quo v0 v0 v1 @8;", [1, ZERO, 8])]:
            code = load((self.SOMETHING + stop).replace("num s15 55;", "num s15 0;"))
            for lanes in [1, 4, 16]:
                self.assertEqual(ask_last(width(lanes), code, run()), answer)
                self.assert_shown([width(lanes), code, run()], all_zero(lanes))

    def test_a_run_that_stops_leaves_what_an_earlier_run_left(self):
        other = ("array 1;read v0 a0 v0;num s0 0;get s1 v0 s0;when s1 {const v3 1;num s3 1;less m3 m3 m3;tail m4 s0;"
                 "put v5 s0 s1;quo v6 v6 v7 @9;raise;}" + self.SOMETHING)
        for lanes in [1, 4, 16]:
            ran = [width(lanes), load(other), run(), set_array(0, [1])]
            self.assertEqual(ask(*ran, run())[2::2], [[0, 4 + 40], [1, ZERO, 9]])
            self.assert_shown(ran + [run()], self.something(lanes))
            for budget in [0, 1, 8, 10]:
                self.assertEqual(ask_last(*ran, run(budget)), [1, STEPS, 0])
                self.assert_shown(ran + [run(budget)], self.something(lanes))

    def test_a_run_begins_anew(self):
        code = load("array 1;read v0 a0 v0;get s1 v0 s0;when s1 {} else {" + self.SOMETHING + "}")
        calls = [code, run(), set_array(0, [1]), run()]
        self.assertEqual(ask(*calls)[-1], [0, 3])
        ones = [[0, 1, 1, 1, 1]] + [[0, 0, 0, 0, 0]] * 15
        self.assert_shown(calls, [(ALL_VECTORS, ones), (ALL_SCALARS, [[0, 0], [0, 1]] + [[0, 0]] * 14),
                                  (ALL_MASKS, [[0, 0, 0, 0, 0]] * 8)])


if __name__ == "__main__":
    unittest.main()
