"""Promise 6, the run itself: refusals, scalars, blocks, the budget, and what a stop leaves."""

import unittest

from tests.support import LARGEST, LIMIT, NONE, OUT, STEPS, ZERO, Probe, array_of, ask, ask_last, lanes_code, load
from tests.support import mask_of, run, scalar_of, set_array, vector_of, width


class TestRefusals(unittest.TestCase):
    def test_none_comes_first(self):
        for budget in [5, -1, 100001]:
            self.assertEqual(ask(run(budget)), [NONE])

    def test_limit(self):
        for budget in [-1, 100001, LARGEST, -LARGEST]:
            self.assertEqual(ask_last(load("raise;"), run(budget)), LIMIT)
            self.assertEqual(ask_last(load(""), run(budget)), LIMIT)

    def test_the_budgets_at_the_edge(self):
        self.assertEqual(ask_last(load("raise;"), run(0)), [1, STEPS, 0])
        self.assertEqual(ask_last(load(""), run(0)), [0, 0])
        self.assertEqual(ask_last(load("raise;"), run(100000)), [0, 1])

    def test_a_refused_run_changes_nothing(self):
        code = "array 1;read v1 a0 v0;num s0 0;get s1 v1 s0;for s2 s1 {}const v2 9;write a0 v0 v2;"
        self.assertEqual(ask(load(code), run(-1), run(100001), run())[1:], [LIMIT, LIMIT, [0, 6]])


class TestScalars(unittest.TestCase):
    def holds(self, probe, lanes=4):
        self.assertEqual(probe.answer(lanes)[0], 0, probe.code)

    def test_num(self):
        self.holds(Probe(f"num s0 {LARGEST};num s11 _{LARGEST};num s1 _0;").scalar(0, LARGEST).scalar(11, -LARGEST)
                   .scalar(1, 0))

    def test_width(self):
        for lanes in [1, 4, 16]:
            self.holds(Probe("width s3;").scalar(3, lanes), lanes)

    def test_get_and_put(self):
        code = "lanes v1;num s1 3;get s2 v1 s1;num s3 _9;put v1 s1 s3;get s1 v1 s1;"
        self.holds(Probe(code).scalar(2, 3).vector(1, [0, 1, 2, -9]).scalar(1, -9))

    def test_put_takes_the_lane_first_and_the_number_then(self):
        self.holds(Probe("num s1 1;num s2 2;put v1 s1 s2;").vector(1, [0, 2, 0, 0]))

    def test_get_and_put_out_of_the_lanes(self):
        for lanes in [1, 4, 16]:
            for wrong in [str(lanes), "_1", f"_{lanes}", str(LARGEST), f"_{LARGEST}"]:
                for told in ["get s2 v1 s1;", "put v1 s1 s2;"]:
                    code = load(f"num s1 {wrong};{told}calc quo s0 s0 s0 @8;")
                    self.assertEqual(ask_last(width(lanes), code, run()), [1, OUT, 0])

    def test_get_of_a_failed_lane(self):
        self.assertEqual(Probe("const v1 6;quo v2 v1 v2 @3;get s1 v1 s0;").scalar(1, 6).answer(), [1, ZERO, 3])


class TestFor(unittest.TestCase):
    def test_no_round(self):
        for rounds in ["0", "_1", f"_{LARGEST}"]:
            code = f"num s1 {rounds};num s2 50;for s2 s1 {{calc quo s0 s0 s0 @8;}}"
            self.assertEqual(ask_last(load(code), run()), [0, 3])
            self.assertEqual(Probe(code).scalar(2, 50).answer()[0], 0)

    def test_rounds(self):
        code = "num s1 4;num s3 1;for s2 s1 {calc add s3 s3 s3 @0;calc add s3 s3 s2 @0;}"
        value = 1
        for number in range(4):
            value = value * 2 + number
        self.assertEqual(Probe(code).scalar(3, value).scalar(2, 3).answer()[0], 0)

    def test_each_round_takes_a_step(self):
        for rounds in [0, 1, 2, 50, 300]:
            self.assertEqual(ask_last(load(f"num s1 {rounds};for s2 s1 {{}}"), run()), [0, 2 + rounds])
            self.assertEqual(ask_last(load(f"num s1 {rounds};for s2 s1 {{raise;raise;}}"), run()), [0, 2 + 3 * rounds])

    def test_how_often_is_told_at_its_beginning(self):
        self.assertEqual(ask_last(load("num s1 3;for s2 s1 {num s1 100;}"), run()), [0, 2 + 6])
        self.assertEqual(ask_last(load("num s1 3;for s2 s1 {num s1 0;}"), run()), [0, 2 + 6])

    def test_one_register_for_both(self):
        code = "num s1 3;for s1 s1 {calc add s2 s2 s1 @0;}"
        self.assertEqual(Probe(code).scalar(1, 2).scalar(2, 3).answer()[0], 0)

    def test_what_the_round_does_to_its_register_is_gone_in_the_next(self):
        code = "num s1 3;for s2 s1 {calc add s3 s3 s2 @0;num s2 70;}"
        self.assertEqual(Probe(code).scalar(3, 3).scalar(2, 70).answer()[0], 0)

    def test_nested(self):
        code = "num s1 3;num s2 2;for s3 s1 {for s4 s2 {calc add s5 s5 s3 @0;} calc add s6 s6 s4 @0;}"
        self.assertEqual(Probe(code).scalar(5, 6).scalar(6, 3).answer()[0], 0)
        self.assertEqual(ask_last(load(code), run()), [0, 3 + 3 * (1 + 1 + 2 * 2 + 1)])

    def test_nested_as_deep_as_may_be(self):
        code = "num s1 2;" + "for s2 s1 {" * 8 + "calc add s3 s3 s1 @0;" + "}" * 8
        self.assertEqual(Probe(code).scalar(3, 512).answer()[0], 0)

    def test_more_rounds_than_any_budget(self):
        for rounds in ["100000", str(LARGEST)]:
            self.assertEqual(ask_last(load(f"num s1 {rounds};for s2 s1 {{}}"), run()), [1, STEPS, 0])
        self.assertEqual(ask_last(load("num s1 99998;for s2 s1 {}"), run()), [0, 100000])


class TestWhen(unittest.TestCase):
    def test_which_instructions_are_done(self):
        for held, expected in [("0", 6), ("1", 5), ("_1", 5), ("7", 5), (str(LARGEST), 5)]:
            code = f"num s1 {held};when s1 {{num s2 5;}} else {{num s2 6;}}"
            self.assertEqual(Probe(code).scalar(2, expected).answer()[0], 0)
            self.assertEqual(ask_last(load(code), run()), [0, 3])

    def test_without_an_else(self):
        for held, expected, steps in [("0", 0, 2), ("1", 5, 3)]:
            code = f"num s1 {held};when s1 {{num s2 5;}}"
            self.assertEqual(Probe(code).scalar(2, expected).answer()[0], 0)
            self.assertEqual(ask_last(load(code), run()), [0, steps])

    def test_with_an_else_that_has_no_instruction(self):
        self.assertEqual(ask_last(load("when s1 {num s2 5;} else {}"), run()), [0, 1])

    def test_it_is_looked_at_once(self):
        code = "num s1 1;when s1 {num s1 0;} else {num s3 9;}"
        self.assertEqual(Probe(code).scalar(3, 0).scalar(1, 0).answer()[0], 0)

    def test_nested(self):
        code = "num s1 1;when s2 {num s3 1;} else {when s1 {num s3 2;} else {num s3 3;}}"
        self.assertEqual(Probe(code).scalar(3, 2).answer()[0], 0)


class TestBudget(unittest.TestCase):
    def test_each_instruction_takes_a_step(self):
        for told in ["lanes v0;", "const v0 1;", "fill v0 s0;", "copy v0 v1;", "neg v0 v1 @0;", "add v0 v1 v2 @0;",
                     "read v0 a0 v1;", "pick v0 a0 v1 @0;", "write a0 v1 v2;", "test m0 v1;", "tail m0 s0;",
                     "both m0 m1 m2;", "less m0 m1 m2;", "either m0 m1 m2;", "count s0 m0;", "num s0 1;", "width s0;",
                     "calc add s0 s1 s2 @0;", "get s0 v0 s1;", "put v0 s0 s1;", "for s0 s1 {}", "when s0 {}", "raise;",
                     "lanes v0 ?m0;"]:
            code = load("array 1;" + told)
            self.assertEqual(ask(code, run(0), run(1), run(2))[1:], [[1, STEPS, 0], [0, 1], [0, 1]], told)
            self.assertEqual(ask_last(load("array 1;" + told * 3), run()), [0, 3])

    def test_one_too_small(self):
        code = load("num s1 3;for s2 s1 {when s2 {raise;} else {raise;raise;}}lanes v0;")
        steps = 1 + 1 + 3 + 3 + 2 + 1 + 1 + 1
        self.assertEqual(ask(code, run(steps), run(steps - 1), run(steps + 1))[1:],
                         [[0, steps], [1, STEPS, 0], [0, steps]])
        for budget in range(steps):
            self.assertEqual(ask_last(code, run(budget)), [1, STEPS, 0])

    def test_the_raise_at_the_end_takes_no_step(self):
        self.assertEqual(ask_last(load("quo v0 v0 v0 @6;"), run(1)), [1, ZERO, 6])
        self.assertEqual(ask_last(load("quo v0 v0 v0 @6;raise;"), run(1)), [1, STEPS, 0])

    def test_the_step_is_taken_before_the_instruction_is_done(self):
        self.assertEqual(ask_last(load("calc quo s0 s0 s0 @6;"), run(0)), [1, STEPS, 0])
        self.assertEqual(ask_last(load("calc quo s0 s0 s0 @6;"), run(1)), [1, ZERO, 6])


class TestWhatAStopLeaves(unittest.TestCase):
    # The first run shows what a0 holds by its steps; then a0 becomes 9, and a stop follows if a1 tells one.
    CODE = ("array 1;array 1;read v1 a0 v0;num s0 0;get s1 v1 s0;for s2 s1 {}const v2 9;write a0 v0 v2;"
            "read v3 a1 v0;get s4 v3 s0;when s4 {")

    def test_arrays_are_as_they_were(self):
        for stop, answer in [("calc quo s3 s3 s0 @7;", [1, ZERO, 7]), ("quo v4 v4 v0 @6;", [1, ZERO, 6]),
                             ("num s5 _1;get s6 v0 s5;", [1, OUT, 0]),
                             ("num s5 99999;for s6 s5 {}", [1, STEPS, 0])]:
            code = load(self.CODE + stop + "}")
            rows = ask(code, set_array(0, [4]), set_array(1, [1]), run(), set_array(1, [0]), run(), run())
            self.assertEqual(rows[3::2], [answer, [0, 9 + 4]])
            self.assertEqual(rows[6], [0, 9 + 9])

    def test_registers_are_as_they_were(self):
        code = load("array 1;lanes v1;test m1 v1;read v2 a0 v0;get s1 v2 s0;num s3 8;"
                    "when s1 {num s3 4;const v1 7;test m1 v1;calc quo s1 s1 s0 @5;}")
        shown = [scalar_of(3), vector_of(1), mask_of(1), array_of(0)]
        for budget, answer in [(100, [1, ZERO, 5]), (9, [1, STEPS, 0])]:
            rows = ask(width(2), code, run(100), *shown, set_array(0, [1]), run(budget), *shown)
            self.assertEqual(rows[2:7], [[0, 6], [0, 8], [0, 0, 1], [0, 0, 1], [0, 0]])
            self.assertEqual(rows[8:], [answer, [0, 8], [0, 0, 1], [0, 0, 1], [0, 1]])

    def test_the_run_leaves_registers_and_masks(self):
        code = load(lanes_code(3, [5, 0, -6, 7]) + "test m2 v3;num s1 44;")
        shown = [vector_of(3), mask_of(2), scalar_of(1)]
        self.assertEqual(ask(code, run(100), *shown)[2:], [[0, 5, 0, -6, 7], [0, 1, 0, 1, 1], [0, 44]])

    def test_no_fault_is_left(self):
        code = load("array 1;read v1 a0 v0;const v2 1;quo v1 v2 v1 @5;")
        self.assertEqual(ask(code, run(), set_array(0, [1]), run())[1::2], [[1, ZERO, 5], [0, 3]])


if __name__ == "__main__":
    unittest.main()
