"""The interface: how calls stand in one list and answers in another, and the document's example."""

import unittest

from lanemachine.machine import answers
from tests.support import array_of, ask, load, map_of, mask_of, plain, run, scalar_of, set_array, vector_of, where
from tests.support import width


def joined(*calls):
    return [number for call in calls for number in call]


EXAMPLE_MAP = answers(map_of(3, 5, 9))[2:]
EXAMPLE = [load(EXAMPLE_MAP), width(2), set_array(0, [7, 8, 9, 10, 11]), set_array(1, [1, 2, 3, 4, 5]), run(100)]

# Each of the calls, on one machine: 40 of them.
STEP = load("array 3;lanes v1;num s1 3;tail m1 s1;read v2 a0 v1 ?m1;add v2 v2 v1 @5;write a0 v1 v2 ?m1;num s2 _4;")
FORTY = ([array_of(0), vector_of(1), scalar_of(2), mask_of(1), where("raise"), STEP, plain(), array_of(0)]
         + [width(2), set_array(0, [4, 5, 6]), run(6), vector_of(1), run(7), array_of(0), vector_of(2), mask_of(1)]
         + [width(5), mask_of(1), run(), array_of(0), vector_of(2), scalar_of(2), mask_of(1), load("x"), scalar_of(1)]
         + [width(4)] + [run(7), array_of(0)] * 6 + [vector_of(2), map_of(13, 0, 0)])
FORTY_ANSWERS = ([[-3], [0, 0, 0, 0, 0], [0, 0], [0, 0, 0, 0, 0], [2, 5], [1, 7],
                  [0] + list(b"array 3;\nlanes v1;\nnum s1 3;\ntail m1 s1;\nread v2 a0 v1 ?m1;\nadd v2 v2 v1 @5;\n"
                             b"write a0 v1 v2 ?m1;\nnum s2 _4;\n"), [0, 0, 0, 0]]
                 + [[0], [0], [1, 9, 0], [0, 0, 0], [0, 7], [0, 4, 6, 6], [0, 4, 6], [0, 1, 1]]
                 + [[0], [0] * 6, [0, 7], [0, 4, 7, 8], [0, 4, 7, 8, 3, 4], [0, -4], [0, 1, 1, 1, 0, 0], [-2], [0, 3]]
                 + [[0]] + [row for k in range(1, 7) for row in [[0, 7], [0, 4, 7 + k, 8 + 2 * k]]]
                 + [[0, 4, 13, 20, 3], [-4]])


class OnlyRead(list):
    """A list that fails when it is changed."""

    def refuse(self, *told, **named):
        raise AssertionError("what is handed in is changed")

    __setitem__ = __delitem__ = __iadd__ = __imul__ = refuse
    append = extend = insert = pop = remove = clear = sort = reverse = refuse


class TestForm(unittest.TestCase):
    def test_a_count_and_then_the_numbers(self):
        self.assertEqual(answers([0, 6] + list(b"raise;")), [2, 0, 1])
        self.assertEqual(answers([0, 0]), [2, 0, 0])
        self.assertEqual(answers([1, 1, 36]), [2, 2, 0])
        self.assertEqual(answers([2]), [1, -3])
        self.assertEqual(answers([0, 6] + list(b"raise;") + [2]), [2, 0, 1, 8, 0] + list(b"raise;\n"))
        self.assertEqual(answers([3, 4]), [1, 0])
        self.assertEqual(answers([0, 8] + list(b"array 2;") + [4, 0, 2, 5, -6]), [2, 1, 0, 1, 0])
        self.assertEqual(answers([0, 6] + list(b"raise;") + [5, 9]), [2, 0, 1, 2, 0, 1])
        self.assertEqual(answers([0, 6] + list(b"raise;") + [5, 0]), [2, 0, 1, 3, 1, 9, 0])
        self.assertEqual(answers([0, 8] + list(b"array 2;") + [6, 0]), [2, 1, 0, 3, 0, 0, 0])
        self.assertEqual(answers([6, 0]), [1, -3])
        self.assertEqual(answers([7, 15]), [5, 0, 0, 0, 0, 0])
        self.assertEqual(answers([7, 16]), [1, -5])
        self.assertEqual(answers([8, 15]), [2, 0, 0])
        self.assertEqual(answers([8, 16]), [1, -5])
        self.assertEqual(answers([9, 7]), [5, 0, 0, 0, 0, 0])
        self.assertEqual(answers([9, 8]), [1, -5])
        self.assertEqual(answers([10, 13, 0, 0]), [1, -4])
        self.assertEqual(answers([10, 0, 0, 0])[:2], [1 + len(answers([10, 0, 0, 0])) - 2, 0])

    def test_calls_follow_one_another(self):
        self.assertEqual(ask(plain(), width(17), run(1), set_array(0, []), where("a"), load("a"), width(2),
                             map_of(-1, 0, 0), array_of(0), vector_of(3), scalar_of(-1), mask_of(7), load(""), plain(),
                             set_array(0, []), run(0), array_of(0)),
                         [[-3], [-4], [-3], [-3], [2, 0], [-2], [0], [-4], [-3], [0, 0, 0], [-5], [0, 0, 0],
                          [0, 0], [0], [-5], [0, 0], [-5]])

    def test_forty_calls(self):
        self.assertEqual(ask(*[width(k % 18) for k in range(40)]),
                         [[-4] if k % 18 in (0, 17) else [0] for k in range(40)])
        self.assertEqual(ask(*FORTY), FORTY_ANSWERS)

    def test_long_answers_one_behind_another(self):
        self.assertEqual(ask(load("array 1024;"), *[array_of(0)] * 39), [[1, 0]] + [[0] * 1025] * 39)
        text = b"calc add s10 s10 s10@1000000000;" * 512
        expected = [0] + list(text.replace(b"@", b" @").replace(b";", b";\n"))
        self.assertEqual(ask(load(text), *[plain()] * 39), [[0, 512]] + [expected] * 39)

    def test_the_longest_list(self):
        self.assertEqual(answers([0, 16900] + [32] * 16900 + [3, 1] * 10), [1, -1] + [1, 0] * 10)

    def test_whole_numbers_and_a_list(self):
        for calls in [joined(*EXAMPLE, plain(), where("$"), run(0)), joined(*FORTY)]:
            given = answers(calls)
            self.assertIs(type(given), list)
            self.assertEqual({type(number) for number in given}, {int})


class TestNothingIsKept(unittest.TestCase):
    LISTS = [joined(*EXAMPLE, run(42), plain(), where(EXAMPLE_MAP), load("$")), joined(*FORTY), [2], [6, -1]]

    def test_what_is_handed_in_is_not_changed(self):
        for calls in self.LISTS:
            before = list(calls)
            handed_in = calls
            given = answers(calls)
            self.assertIs(calls, handed_in)
            self.assertIsNot(given, calls)
            self.assertEqual(calls, before)
            self.assertEqual({type(number) for number in calls}, {int})

    def test_what_is_handed_in_is_not_changed_for_a_while_either(self):
        for calls in self.LISTS:
            self.assertEqual(answers(OnlyRead(calls)), answers(calls))

    def test_the_same_list_answers_the_same(self):
        for calls in self.LISTS:
            first = answers(calls)
            self.assertEqual(answers(calls), first)
            self.assertEqual(answers(list(calls)), first)

    def test_other_lists_between_change_nothing(self):
        firsts = [answers(calls) for calls in self.LISTS]
        self.assertEqual([answers(calls) for calls in reversed(self.LISTS)], firsts[::-1])

    def test_a_new_machine_each_time(self):
        answers(joined(*EXAMPLE))
        self.assertEqual(ask(plain(), run(5), set_array(0, [1]), array_of(2), vector_of(4), scalar_of(4), mask_of(0)),
                         [[-3], [-3], [-3], [-3], [0, 0, 0, 0, 0], [0, 0], [0, 0, 0, 0, 0]])
        self.assertEqual(ask(load("width s0;for s1 s0 {}"), run())[-1], [0, 6])

    def test_an_answer_is_not_kept_either(self):
        first = answers(map_of(3, 5, 9))
        copy = list(first)
        first.clear()
        self.assertEqual(answers(map_of(3, 5, 9)), copy)


class TestTheDocumentsExample(unittest.TestCase):
    def test_it_whole(self):
        first, second = [7, 8, 9, 10, 11], [1, 2, 3, 4, 5]
        calls = joined(map_of(3, 5, 9), load(EXAMPLE_MAP), width(2), set_array(0, first), set_array(1, second),
                       run(43), array_of(2), set_array(1, [1, 2, 0, 4, 0]), run(43), array_of(2), array_of(1))
        self.assertEqual(answers(calls), joined(
            [1 + len(EXAMPLE_MAP), 0], EXAMPLE_MAP, [2, 3, 18], [1, 0], [1, 0], [1, 0],
            [2, 0, 43], [6, 0, 7, 4, 3, 2, 2], [1, 0], [3, 1, 4, 9], [6, 0, 7, 4, 3, 2, 2], [6, 0, 1, 2, 0, 4, 0]))

    def test_the_run(self):
        for budget in [100000, 100, 44, 43]:
            self.assertEqual(ask(*EXAMPLE[:-1], run(budget), array_of(2)),
                             [[3, 18], [0], [0], [0], [0, 43], [0, 7, 4, 3, 2, 2]])

    def test_one_step_too_few(self):
        for budget in [42, 41, 1, 0]:
            self.assertEqual(ask(*EXAMPLE[:-1], run(budget), array_of(2))[-2:], [[1, 9, 0], [0, 0, 0, 0, 0, 0]])

    def test_the_third_is_refused(self):
        refused = set_array(1, [1, 2, 0, 4, 0])
        self.assertEqual(ask(*EXAMPLE[:-1], refused, run(100), array_of(2))[-2:], [[1, 4, 9], [0, 0, 0, 0, 0, 0]])
        self.assertEqual(ask(*EXAMPLE, refused, set_array(0, [9] * 5), run(100), array_of(2), array_of(0))[-3:],
                         [[1, 4, 9], [0, 7, 4, 3, 2, 2], [0, 9, 9, 9, 9, 9]])


if __name__ == "__main__":
    unittest.main()
