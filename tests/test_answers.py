"""The interface: how calls stand in one list and answers in another, and the document's example."""

import unittest

from lanemachine.machine import answers
from tests.support import Probe, ask, load, map_of, plain, run, set_array, where, width


def joined(*calls):
    return [number for call in calls for number in call]


EXAMPLE_MAP = answers(map_of(3, 5, 9))[2:]
EXAMPLE = [load(EXAMPLE_MAP), width(2), set_array(0, [7, 8, 9, 10, 11]), set_array(1, [1, 2, 3, 4, 5]), run(100)]


class TestForm(unittest.TestCase):
    def test_a_count_and_then_the_numbers(self):
        self.assertEqual(answers([0, 6] + list(b"raise;")), [2, 0, 1])
        self.assertEqual(answers([0, 0]), [2, 0, 0])
        self.assertEqual(answers([1, 1, 36]), [2, 2, 0])
        self.assertEqual(answers([2]), [1, -3])
        self.assertEqual(answers([0, 6] + list(b"raise;") + [2]), [2, 0, 1, 8, 0] + list(b"raise;\n"))
        self.assertEqual(answers([3, 4]), [1, 0])
        self.assertEqual(answers([0, 8] + list(b"array 2;") + [4, 0, 2, 5, -6]), [2, 1, 0, 1, 0])
        self.assertEqual(answers([0, 6] + list(b"raise;") + [5, 9]), [2, 0, 1, 2, 0, 1])
        self.assertEqual(answers([0, 6] + list(b"raise;") + [5, 0]), [2, 0, 1, 3, 1, 9, 0])
        self.assertEqual(answers([10, 13, 0, 0]), [1, -4])
        self.assertEqual(answers([10, 0, 0, 0])[:2], [1 + len(answers([10, 0, 0, 0])) - 2, 0])

    def test_calls_follow_one_another(self):
        self.assertEqual(ask(plain(), width(17), run(1), set_array(0, []), where("a"), load("a"), width(2),
                             map_of(-1, 0, 0), load(""), plain(), set_array(0, []), run(0)),
                         [[-3], [-4], [-3], [-3], [2, 0], [-2], [0], [-4], [0, 0], [0], [-5], [0, 0]])

    def test_forty_calls(self):
        self.assertEqual(ask(*[width(k % 18) for k in range(40)]),
                         [[-4] if k % 18 in (0, 17) else [0] for k in range(40)])

    def test_the_longest_list(self):
        self.assertEqual(answers([0, 16900] + [32] * 16900 + [3, 1] * 10), [1, -1] + [1, 0] * 10)

    def test_whole_numbers_and_a_list(self):
        given = answers(joined(*EXAMPLE, plain(), where("$"), run(0)))
        self.assertIs(type(given), list)
        self.assertEqual({type(number) for number in given}, {int})


class TestNothingIsKept(unittest.TestCase):
    def test_what_is_handed_in_is_not_changed(self):
        calls = joined(*EXAMPLE, run(42), plain(), where(EXAMPLE_MAP), load("$"))
        before = list(calls)
        answers(calls)
        self.assertEqual(calls, before)

    def test_the_same_list_answers_the_same(self):
        calls = joined(*EXAMPLE, run(42), plain(), where(EXAMPLE_MAP), load("$"))
        first = answers(calls)
        self.assertEqual(answers(calls), first)
        self.assertEqual(answers(list(calls)), first)

    def test_a_new_machine_each_time(self):
        answers(joined(*EXAMPLE))
        self.assertEqual(ask(plain(), run(5), set_array(0, [1])), [[-3], [-3], [-3]])
        self.assertEqual(ask(load("width s0;for s1 s0 {}"), run())[-1], [0, 6])

    def test_an_answer_is_not_kept_either(self):
        first = answers(map_of(3, 5, 9))
        copy = list(first)
        first.clear()
        self.assertEqual(answers(map_of(3, 5, 9)), copy)


class TestTheDocumentsExample(unittest.TestCase):
    def test_load(self):
        self.assertEqual(ask(*EXAMPLE)[0], [3, 18])

    def test_the_run(self):
        self.assertEqual(ask(*EXAMPLE)[1:], [[0], [0], [0], [0, 43]])

    def test_the_results(self):
        probe = Probe(bytes(EXAMPLE_MAP).decode()).array(2, [7, 4, 3, 2, 2])
        self.assertEqual(probe.answer(2, [[7, 8, 9, 10, 11], [1, 2, 3, 4, 5]])[0], 0)

    def test_the_third_is_refused(self):
        self.assertEqual(ask(*EXAMPLE, set_array(1, [1, 2, 0, 4, 0]), run(100))[-1], [1, 4, 9])

    def test_a_refused_run_leaves_the_results_as_they_were(self):
        # Ahead of the map's instructions, as many rounds as the first result has show it.
        show = "read v9 a2 v9;get s9 v9 s9;for s10 s9 {}"
        code = load(bytes(EXAMPLE_MAP).decode().replace("num s1 5;", show + "num s1 5;"))
        calls = [code] + EXAMPLE[1:] + [set_array(0, [9, 9, 9, 9, 9]), set_array(1, [1, 2, 0, 4, 0]), run(100)]
        self.assertEqual(ask(*calls, set_array(1, [1, 2, 3, 4, 5]), run(100), run(100))[4:],
                         [[0, 46], [0], [0], [1, 4, 9], [0], [0, 46 + 7], [0, 46 + 9]])

    def test_one_step_too_few(self):
        self.assertEqual(ask(*EXAMPLE[:-1], run(42))[-1], [1, 9, 0])


if __name__ == "__main__":
    unittest.main()
