"""Promises 4 and 5: the width, and what an array is set to."""

import unittest

from tests.support import ABSENT, DATA, LARGEST, LIMIT, NONE, Probe, ask, load, mask_of, run, scalar_of, set_array
from tests.support import vector_of, width

SHOW_WIDTH = load("width s0;for s1 s0 {}")


class TestWidth(unittest.TestCase):
    def test_it_is_4_at_first(self):
        self.assertEqual(ask(SHOW_WIDTH, run())[-1], [0, 2 + 4])

    def test_each_width(self):
        for n in range(1, 17):
            self.assertEqual(ask(width(n), SHOW_WIDTH, run())[::2], [[0], [0, 2 + n]])
            self.assertEqual(ask(SHOW_WIDTH, width(n), run())[1:], [[0], [0, 2 + n]])

    def test_limit(self):
        for n in [0, 17, 18, -1, -16, LARGEST, -LARGEST]:
            self.assertEqual(ask(width(n)), [LIMIT])
            self.assertEqual(ask(width(7), SHOW_WIDTH, width(n), run())[2:], [LIMIT, [0, 2 + 7]])

    def test_the_registers_have_as_many_lanes(self):
        for n in [1, 2, 15, 16]:
            last_lane = f"num s0 {n - 1};get s1 v0 s0;"
            self.assertEqual(ask(width(n), load(last_lane), run())[-1], [0, 2])
            self.assertEqual(ask(width(n), load(f"num s0 {n};get s1 v0 s0;"), run())[-1], [1, 12, 0])
            self.assertEqual(Probe("num s0 99;tail m0 s0;count s1 m0;").scalar(1, n).answer(n)[0], 0)

    def test_arrays_stay(self):
        show = load("array 2;lanes v0;num s0 2;tail m0 s0;read v1 a0 v0 ?m0;num s0 1;get s1 v1 s0;for s2 s1 {}")
        rows = ask(show, set_array(0, [3, 8]), width(2), run(), width(5), run(), width(0), run(), width(16), run())
        self.assertEqual(rows[3::2], [[0, 15]] * 4)

    def test_arrays_that_a_run_wrote_stay(self):
        show = load("array 1;read v1 a0 v0;num s0 0;get s1 v1 s0;for s2 s1 {}const v2 9;write a0 v0 v2;")
        self.assertEqual(ask(show, run(), width(2), run())[1::2], [[0, 6], [0, 15]])

    def test_registers_and_masks_do_not_stay(self):
        code = load("num s3 7;const v2 5;test m1 v2;")
        shown = [scalar_of(3), vector_of(2), mask_of(1)]
        rows = ask(code, run(9), width(17), *shown, width(4), *shown, run(9), width(0), *shown, width(2), *shown)
        self.assertEqual(rows[1:10], [[0, 3], LIMIT, [0, 7], [0] + [5] * 4, [0] + [1] * 4,
                                      [0], [0, 0], [0] + [0] * 4, [0] + [0] * 4])
        self.assertEqual(rows[10:], [[0, 3], LIMIT, [0, 7], [0] + [5] * 4, [0] + [1] * 4,
                                     [0], [0, 0], [0, 0, 0], [0, 0, 0]])

    def test_faults_do_not_stay(self):
        code = load("array 1;read v0 a0 v1;lanes v1;quo v0 v1 v0 @5;")
        rows = ask(code, width(2), run(), set_array(0, [1]), width(3), run(), run())
        self.assertEqual(rows[2::3], [[1, 4, 5], [0, 3]])
        self.assertEqual(rows[6], [0, 3])


class TestSet(unittest.TestCase):
    CODE = load("array 3;array 0;array 1;")

    def test_none_comes_first(self):
        self.assertEqual(ask(set_array(0, [])), [NONE])
        self.assertEqual(ask(set_array(-1, [1, 2, 3])), [NONE])
        self.assertEqual(ask(load("$"), set_array(0, [1]))[-1], NONE)

    def test_absent(self):
        for n in [-1, 3, 4, 32, -3, LARGEST, -LARGEST]:
            self.assertEqual(ask(self.CODE, set_array(n, [1, 2, 3]))[-1], ABSENT)
        self.assertEqual(ask(load("raise;"), set_array(0, []))[-1], ABSENT)

    def test_absent_comes_before_data(self):
        self.assertEqual(ask(self.CODE, set_array(3, [1] * 50))[-1], ABSENT)
        self.assertEqual(ask(self.CODE, set_array(-1, []))[-1], ABSENT)

    def test_data(self):
        for n, data in [(0, []), (0, [1, 2]), (0, [1, 2, 3, 4]), (0, [0] * 3000), (1, [0]), (2, []), (2, [1, 2])]:
            self.assertEqual(ask(self.CODE, set_array(n, data))[-1], DATA)

    def test_data_that_are_no_numbers_of_arrays(self):
        self.assertEqual(ask(self.CODE, set_array(2, [LARGEST + 1]))[-1], DATA)
        self.assertEqual(ask(self.CODE, set_array(0, [0, 0, -LARGEST - 1]))[-1], DATA)

    def test_set(self):
        self.assertEqual(ask(self.CODE, set_array(0, [1, 2, 3]), set_array(1, []), set_array(2, [-LARGEST]))[1:],
                         [[0], [0], [0]])

    def test_the_array_has_these_numbers_and_the_others_theirs(self):
        probe = Probe("array 3;array 3;array 1;")
        probe.array(0, [LARGEST, 0, -LARGEST]).array(1, [4, -5, 6]).array(2, [0])
        self.assertEqual(probe.answer(1, [[LARGEST, 0, -LARGEST], [4, -5, 6]])[0], 0)

    def test_the_longest_array(self):
        data = list(range(1024))
        probe = Probe("array 1024;num s0 1023;fill v0 s0;read v1 a0 v0;").vector(1, [1023])
        self.assertEqual(probe.answer(1, [data])[0], 0)

    def test_a_refused_set_leaves_the_array(self):
        show = load("array 1;read v1 a0 v0;num s0 0;get s1 v1 s0;for s2 s1 {}")
        rows = ask(show, set_array(0, [6]), set_array(0, [7, 7]), set_array(1, [7]), set_array(0, []), run())
        self.assertEqual(rows[2:], [DATA, ABSENT, DATA, [0, 10]])

    def test_the_last_set_stays(self):
        show = load("array 1;read v1 a0 v0;num s0 0;get s1 v1 s0;for s2 s1 {}")
        self.assertEqual(ask(show, set_array(0, [6]), set_array(0, [2]), run())[-1], [0, 6])


if __name__ == "__main__":
    unittest.main()
