"""Promise 6, instructions in lanes: masks, failed lanes, arrays, raise."""

import unittest

from tests.support import BIG, INDEX, LARGEST, OUT, ZERO, Probe, ask, ask_last, lanes_code, load, mask_code, run
from tests.support import set_array, width


class TestMoving(unittest.TestCase):
    def holds(self, probe, lanes=4, arrays=()):
        self.assertEqual(probe.answer(lanes, arrays)[0], 0, probe.code)

    def test_lanes(self):
        self.holds(Probe("lanes v3;").vector(3, list(range(16))), 16)
        self.holds(Probe("lanes v3;").vector(3, [0]), 1)

    def test_const(self):
        self.holds(Probe("const v3 7;const v4 _8;").vector(3, [7] * 4).vector(4, [-8] * 4))
        self.holds(Probe(f"const v3 {LARGEST};const v4 _{LARGEST};").lane(3, 2, LARGEST).lane(4, 3, -LARGEST))
        self.holds(Probe("const v3 7;const v3 _0;").vector(3, [0] * 4))

    def test_fill(self):
        self.holds(Probe("num s5 _6;fill v3 s5;num s5 4;").vector(3, [-6] * 4))

    def test_copy(self):
        self.holds(Probe("lanes v3;copy v4 v3;const v3 9;").vector(4, [0, 1, 2, 3]).vector(3, [9] * 4))
        self.holds(Probe("lanes v3;copy v3 v3;").vector(3, [0, 1, 2, 3]))

    def test_a_run_begins_with_zeros_and_masks_off(self):
        probe = Probe("")
        for number in [0, 1, 7, 14]:
            probe.vector(number, [0, 0])
        for number in range(6):
            probe.mask(number, [0, 0])
        for number in range(12):
            probe.scalar(number, 0)
        self.holds(probe, 2)

    def test_a_second_run_begins_anew(self):
        code = Probe("").vector(1, [0] * 4).mask(1, [0] * 4).scalar(1, 0).code + "lanes v1;test m1 v1;num s1 5;"
        rows = ask(load(code), run(), run())
        self.assertEqual(rows[1], rows[2])
        self.assertEqual(rows[1][0], 0)


class TestMasks(unittest.TestCase):
    MASK = [1, 0, 0, 1, 0]

    def holds(self, code, vector, expected, arrays=()):
        probe = Probe(code).vector(vector, expected)
        self.assertEqual(probe.answer(5, arrays)[0], 0, code)

    def test_the_other_lanes_stay_as_they_are(self):
        before = mask_code(1, self.MASK) + "const v1 50;lanes v2;num s1 9;const v5 1;"
        for told, expected in [("lanes v1 ?m1;", [0, 50, 50, 3, 50]), ("const v1 _2 ?m1;", [-2, 50, 50, -2, 50]),
                               ("fill v1 s1 ?m1;", [9, 50, 50, 9, 50]), ("copy v1 v2 ?m1;", [0, 50, 50, 3, 50]),
                               ("neg v1 v2 @1 ?m1;", [0, 50, 50, -3, 50]), ("add v1 v2 v5 @1 ?m1;", [1, 50, 50, 4, 50]),
                               ("lanes v1 ?m2;", [50] * 5)]:
            self.holds(before + told, 1, expected)
        for told in ["read v1 a0 v2 ?m1;", "pick v1 a0 v2 @1 ?m1;"]:
            self.holds("array 5;" + before + told, 1, [10, 50, 50, 13, 50], [[10, 11, 12, 13, 14]])

    def test_the_other_lanes_do_not_fail(self):
        before = "array 1;" + mask_code(1, self.MASK) + "lanes v2;const v3 _1;const v3 0 ?m1;"
        before += f"const v4 1 ?m1;const v6 5;const v6 1 ?m1;const v7 {LARGEST};const v7 2 ?m1;"
        for told in ["quo v1 v2 v4 @1 ?m1;", "not v1 v6 @1 ?m1;", "and v1 v6 v6 @1 ?m1;", "mul v1 v7 v7 @1 ?m1;",
                     "read v1 a0 v3 ?m1;", "pick v1 a0 v3 @1 ?m1;",
                     "write a0 v3 v3 ?m1;"]:
            self.assertEqual(ask_last(width(5), load(before + told), run())[0], 0, told)
            unmasked = told.replace(" ?m1", "")
            self.assertEqual(ask_last(width(5), load(before + unmasked), run())[0], 1, unmasked)

    def test_write_is_done_where_the_mask_is_on(self):
        code = "array 5;" + mask_code(1, self.MASK) + "lanes v1;const v2 7;write a0 v1 v2 ?m1;"
        self.assertEqual(Probe(code).array(0, [7, 1, 1, 7, 1]).answer(5, [[1] * 5])[0], 0)

    def test_test(self):
        code = lanes_code(1, [0, 5, -1, 0, LARGEST]) + "test m1 v1;"
        self.assertEqual(Probe(code).mask(1, [0, 1, 1, 0, 1]).answer(5)[0], 0)

    def test_test_puts_off_too(self):
        code = mask_code(1, [1] * 5) + lanes_code(1, [0, 5, 0, 0, 1]) + "test m1 v1;"
        self.assertEqual(Probe(code).mask(1, [0, 1, 0, 0, 1]).answer(5)[0], 0)

    def test_test_with_a_mask(self):
        code = mask_code(1, self.MASK) + mask_code(2, [1, 1, 0, 0, 0]) + lanes_code(1, [0, 0, 5, 5, 5])
        self.assertEqual(Probe(code + "test m2 v1 ?m1;").mask(2, [0, 1, 0, 1, 0]).answer(5)[0], 0)

    def test_test_of_the_mask_that_is_told(self):
        code = mask_code(1, self.MASK) + lanes_code(1, [0, 5, 5, 5, 0]) + "test m1 v1 ?m1;"
        self.assertEqual(Probe(code).mask(1, [0, 0, 0, 1, 0]).answer(5)[0], 0)

    def test_tail(self):
        for bound, expected in [("0", [0, 0, 0]), ("1", [1, 0, 0]), ("2", [1, 1, 0]), ("3", [1, 1, 1]),
                                ("4", [1, 1, 1]), (str(LARGEST), [1, 1, 1]), ("_1", [0, 0, 0])]:
            code = mask_code(1, [0, 1, 0]) + f"num s1 {bound};tail m1 s1;"
            self.assertEqual(Probe(code).mask(1, expected).answer(3)[0], 0, bound)

    def test_both_less_either(self):
        before = mask_code(1, [0, 0, 1, 1]) + mask_code(2, [0, 1, 0, 1]) + mask_code(3, [1, 0, 0, 1])
        for told, number, expected in [("both m3 m1 m2;", 3, [0, 0, 0, 1]), ("less m3 m1 m2;", 3, [0, 0, 1, 0]),
                                       ("either m3 m1 m2;", 3, [0, 1, 1, 1]), ("less m1 m2 m1;", 1, [0, 1, 0, 0]),
                                       ("both m2 m2 m1;", 2, [0, 0, 0, 1]), ("either m1 m2 m1;", 1, [0, 1, 1, 1]),
                                       ("less m1 m1 m1;", 1, [0, 0, 0, 0]), ("both m1 m1 m1;", 1, [0, 0, 1, 1])]:
            self.assertEqual(Probe(before + told).mask(number, expected).answer()[0], 0, told)

    def test_count(self):
        for lanes, expected in [([0] * 5, 0), (self.MASK, 2), ([1] * 5, 5)]:
            code = mask_code(1, lanes) + "num s1 99;count s1 m1;"
            self.assertEqual(Probe(code).scalar(1, expected).answer(5)[0], 0)


class TestFailedLanes(unittest.TestCase):
    # Lane 1 of three fails here with ZERO at 40.
    FAILS = lanes_code(9, [1, 0, 1]) + "quo v10 v9 v9 @40;"

    def test_a_failed_lane_stays_as_it_is(self):
        before = "array 3;const v1 50;lanes v2;num s1 9;const v5 1;" + self.FAILS
        for told, expected in [("lanes v1;", [0, 50, 2]), ("const v1 7;", [7, 50, 7]), ("fill v1 s1;", [9, 50, 9]),
                               ("copy v1 v2;", [0, 50, 2]), ("neg v1 v2 @1;", [0, 50, -2]),
                               ("sub v1 v2 v5 @1;", [-1, 50, 1]), ("read v1 a0 v2;", [10, 50, 12]),
                               ("pick v1 a0 v2 @1;", [10, 50, 12])]:
            self.assertEqual(Probe(before + told).vector(1, expected).answer(3, [[10, 11, 12]]), [1, ZERO, 40], told)

    def test_a_failed_lane_does_not_write(self):
        code = "array 3;lanes v1;const v2 7;" + self.FAILS + "write a0 v1 v2;"
        self.assertEqual(Probe(code).array(0, [7, 0, 7]).answer(3), [1, ZERO, 40])

    def test_a_failed_lane_is_not_tested(self):
        code = mask_code(1, [1, 1, 1]) + self.FAILS + "const v1 0;test m1 v1;"
        self.assertEqual(Probe(code).mask(1, [0, 1, 0]).answer(3), [1, ZERO, 40])

    def test_a_mask_does_not_make_a_failed_lane_active(self):
        code = "const v1 50;" + mask_code(1, [0, 1, 1]) + self.FAILS + "const v1 7 ?m1;"
        self.assertEqual(Probe(code).vector(1, [50, 50, 7]).answer(3), [1, ZERO, 40])

    def test_a_failed_lane_keeps_its_first_fault(self):
        code = self.FAILS + f"const v1 {LARGEST};mul v1 v1 v1 @60;read v1 a0 v1;"
        self.assertEqual(ask_last(width(3), load("array 1;" + code + "const v9 1;quo v9 v9 v9 @70;"), run()),
                         [1, BIG, 60])
        self.assertEqual(ask_last(width(2), load(lanes_code(9, [0, 1]) + "quo v1 v9 v9 @40;quo v1 v9 v10 @41;"), run()),
                         [1, ZERO, 40])

    def test_these_are_done_whatever_lanes_have_failed(self):
        all_fail = "quo v10 v9 v9 @40;"
        code = (all_fail + "num s1 2;tail m1 s1;num s2 1;tail m2 s2;both m3 m1 m2;less m4 m1 m2;either m5 m1 m2;"
                "count s3 m1;num s4 8;width s5;calc add s6 s3 s4 @0;put v3 s2 s4;get s7 v3 s2;")
        probe = Probe(code).mask(1, [1, 1, 0]).mask(2, [1, 0, 0]).mask(3, [1, 0, 0]).mask(4, [0, 1, 0])
        probe.mask(5, [1, 1, 0]).scalar(3, 2).scalar(4, 8).scalar(5, 3).scalar(6, 10).vector(3, [0, 8, 0]).scalar(7, 8)
        self.assertEqual(probe.answer(3), [1, ZERO, 40])

    def test_for_and_when_are_done_whatever_lanes_have_failed(self):
        code = "quo v10 v9 v9 @40;num s1 3;for s2 s1 {calc add s3 s3 s1 @0;}when s3 {num s4 1;}"
        self.assertEqual(Probe(code).scalar(2, 2).scalar(3, 9).scalar(4, 1).answer(), [1, ZERO, 40])

    def test_all_lanes_failed(self):
        code = "const v1 4;quo v10 v9 v9 @40;const v1 5;"
        self.assertEqual(Probe(code).vector(1, [4] * 16).answer(16), [1, ZERO, 40])


class TestRaise(unittest.TestCase):
    def test_no_lane_failed(self):
        self.assertEqual(ask_last(load("raise;raise;"), run()), [0, 2])

    def test_the_failed_lane_with_the_smallest_number(self):
        # Lane 2 fails first, lane 1 then: lane 1 is told.
        code = lanes_code(1, [1, 1, 0, 0]) + "quo v5 v1 v1 @7;" + lanes_code(1, [1, 0, 1, 1]) + "rem v5 v1 v1 @8;"
        self.assertEqual(ask_last(load(code), run()), [1, ZERO, 8])
        self.assertEqual(ask_last(load(code + "raise;"), run()), [1, ZERO, 8])

    def test_raise_tells_what_has_failed_so_far(self):
        code = lanes_code(1, [1, 1, 0, 0]) + "quo v5 v1 v1 @7;raise;" + lanes_code(1, [1, 0, 1, 1]) + "quo v5 v1 v1 @8;"
        self.assertEqual(ask_last(load(code), run()), [1, ZERO, 7])

    def test_raise_ends_the_run(self):
        self.assertEqual(ask_last(load("quo v5 v1 v1 @7;raise;calc quo s0 s0 s0 @8;"), run()), [1, ZERO, 7])

    def test_without_a_raise_the_run_goes_on_to_its_end(self):
        self.assertEqual(ask_last(load("quo v5 v1 v1 @7;calc quo s0 s0 s0 @8;"), run()), [1, ZERO, 8])

    def test_in_a_block(self):
        code = "num s1 2;for s2 s1 {when s2 {raise;} quo v5 v1 v1 @7;} calc quo s0 s0 s0 @8;"
        self.assertEqual(ask_last(load(code), run()), [1, ZERO, 7])


class TestArrays(unittest.TestCase):
    def test_read(self):
        code = "array 3;" + lanes_code(1, [2, 0, 1, 2]) + "read v2 a0 v1;read v1 a0 v1;"
        probe = Probe(code).vector(2, [-7, 5, 6, -7]).vector(1, [-7, 5, 6, -7])
        self.assertEqual(probe.answer(4, [[5, 6, -7]])[0], 0)

    def test_out_of_the_array(self):
        for wrong in [3, -1, -3, 4, LARGEST, -LARGEST]:
            before = "array 3;const v2 50;" + lanes_code(1, [2, wrong, 0])
            for told, fault in [("read v2 a0 v1;", [OUT, 0]), ("pick v2 a0 v1 @66;", [INDEX, 66])]:
                self.assertEqual(Probe(before + told).vector(2, [7, 50, 5]).answer(3, [[5, 6, 7]]), [1] + fault, told)
            probe = Probe(before + "write a0 v1 v2;").array(0, [50, 6, 50])
            self.assertEqual(probe.answer(3, [[5, 6, 7]]), [1, OUT, 0])

    def test_an_array_without_numbers(self):
        for told, fault in [("read v2 a0 v1;", [OUT, 0]), ("pick v2 a0 v1 @66;", [INDEX, 66]),
                            ("write a0 v1 v2;", [OUT, 0])]:
            self.assertEqual(ask_last(load("array 0;array 3;" + told), run()), [1] + fault)

    def test_pick(self):
        code = "array 3;array 2;" + lanes_code(1, [1, 0]) + "pick v2 a1 v1 @6;"
        self.assertEqual(Probe(code).vector(2, [9, 8]).answer(2, [[5, 6, -7], [8, 9]])[0], 0)

    def test_write(self):
        code = "array 2;array 3;" + lanes_code(1, [2, 0]) + lanes_code(2, [-5, LARGEST]) + "write a1 v1 v2;"
        self.assertEqual(Probe(code).array(1, [LARGEST, 2, -5]).array(0, [8, 9]).answer(2, [[8, 9], [1, 2, 3]])[0], 0)

    def test_the_later_lane_stays(self):
        code = "array 3;" + lanes_code(1, [1, 2, 1, 1]) + lanes_code(2, [10, 11, 12, 13]) + "write a0 v1 v2;"
        self.assertEqual(Probe(code).array(0, [0, 13, 11]).answer()[0], 0)

    def test_the_later_active_lane_stays(self):
        code = "array 3;" + mask_code(1, [1, 1, 1, 0]) + lanes_code(2, [10, 11, 12, 13]) + "write a0 v1 v2 ?m1;"
        self.assertEqual(Probe(code).array(0, [12, 0, 0]).answer()[0], 0)

    def test_arrays_stay_between_runs(self):
        code = load("array 1;read v1 a0 v0;const v2 1;add v1 v1 v2 @0;write a0 v0 v1;get s1 v1 s0;for s2 s1 {}")
        self.assertEqual(ask(code, set_array(0, [5]), run(), run(), run())[2:], [[0, 12], [0, 13], [0, 14]])


if __name__ == "__main__":
    unittest.main()
