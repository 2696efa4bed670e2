"""Promise 11: the map of an operator, and that its code tells what a plain loop would."""

import random
import unittest

from tests.support import BIG, DOMAIN, LARGEST, LIMIT, OPERATORS, STEPS, ZERO, array_of, ask, ask_last, load, map_of
from tests.support import run, set_array, width

# As the document has it.
LINE = ("array N;array N;array N;num s1 N;width s0;num s2 1;calc add s3 s1 s0 @0;calc sub s3 s3 s2 @0;"
        "calc quo s3 s3 s0 @0;for s4 s3 {calc mul s5 s4 s0 @0;fill v0 s5;lanes v1;add v0 v0 v1 @0;"
        "calc sub s6 s1 s5 @0;tail m0 s6;read v2 a0 v0 ?m0;read v3 a1 v0 ?m0;OP v4 v2 v3 @P ?m0;"
        "write a2 v0 v4 ?m0;raise;}")


def map_line(o, n, p):
    return LINE.replace("N", str(n)).replace("OP", OPERATORS[o]).replace("P", str(p))


def worked(operator, a, b):
    """What the operator answers, or in a tuple the kind of its refusal."""
    if operator in ("add", "sub", "mul"):
        number = {"add": a + b, "sub": a - b, "mul": a * b}[operator]
        return number if abs(number) <= LARGEST else (BIG,)
    if operator in ("quo", "rem"):
        return divmod(a, b)[operator == "rem"] if b != 0 else (ZERO,)
    if operator in ("and", "or"):
        if not {a, b} <= {0, 1}:
            return (DOMAIN,)
        return int(a == b == 1) if operator == "and" else int(a + b > 0)
    return {"min": min(a, b), "max": max(a, b), "lt": int(a < b), "le": int(a <= b), "eq": int(a == b),
            "ne": int(a != b)}[operator]


def plain_loop(operator, first, second, place):
    """The results, or the answer of the run that ends at the first that is refused."""
    results = []
    for a, b in zip(first, second):
        result = worked(operator, a, b)
        if isinstance(result, tuple):
            return None, [1, result[0], place]
        results.append(result)
    return results, None


class TestText(unittest.TestCase):
    def test_each_operator_at_the_edges(self):
        for o in range(13):
            for n in [0, 1, 5, 10, 1023, 1024]:
                for p in [0, 1, 9, 100, LARGEST - 1, LARGEST]:
                    answer = ask_last(map_of(o, n, p))
                    self.assertEqual(answer[0], 0)
                    self.assertEqual(bytes(answer[1:]).decode(), map_line(o, n, p))

    def test_it_is_a_code(self):
        for o in range(13):
            for n, p in [(0, 0), (1024, LARGEST), (0, LARGEST), (1024, 0)]:
                self.assertEqual(ask_last(load(ask_last(map_of(o, n, p))[1:])), [3, 18])

    def test_limit(self):
        outside = {0: [-1, -13, 13, 14, LARGEST, -LARGEST], 1: [-1, 1025, LARGEST, -LARGEST],
                   2: [-1, LARGEST + 1, -LARGEST]}
        for edges in [[0, 0, 0], [12, 1024, LARGEST], [3, 5, 9]]:
            for at, wrong in outside.items():
                for number in wrong:
                    told = list(edges)
                    told[at] = number
                    self.assertEqual(ask_last(map_of(*told)), LIMIT, told)
        self.assertEqual(ask_last(map_of(-1, 1025, -1)), LIMIT)

    def test_it_changes_nothing(self):
        self.assertEqual(ask(map_of(3, 5, 9), [2])[-1], [-3])
        self.assertEqual(ask(load("raise;"), map_of(3, 5, 9), [2], run())[2:], [[0] + list(b"raise;\n"), [0, 1]])


class TestTheMapsRun(unittest.TestCase):
    def assert_as_the_loop(self, o, lanes, first, second):
        n = len(first)
        results, stop = plain_loop(OPERATORS[o], first, second, 9)
        code = load(map_line(o, n, 9))
        calls = [width(lanes), code, set_array(0, first), set_array(1, second), run()]
        strips = -(-n // lanes)
        self.assertEqual(ask_last(*calls), stop or [0, 7 + 12 * strips], (o, lanes, first, second))
        shown = ask(*calls, array_of(0), array_of(1), array_of(2))[-3:]
        self.assertEqual(shown, [[0] + first, [0] + second, [0] + (results or [0] * n)], (o, lanes, first, second))

    def test_whatever_the_width(self):
        chance = random.Random(1)
        for lanes in range(1, 17):
            for o in range(13):
                n = chance.randint(0, 20)
                first = [chance.randint(-9, 9) for count in range(n)]
                second = [chance.choice([-4, -3, -1, 1, 2, 7]) for count in range(n)]
                if OPERATORS[o] in ("and", "or"):
                    first = [chance.randint(0, 1) for count in range(n)]
                    second = [chance.randint(0, 1) for count in range(n)]
                self.assert_as_the_loop(o, lanes, first, second)

    def test_the_first_that_is_refused(self):
        chance = random.Random(2)
        numbers = [0, 1, 1, 1, 1, 2, LARGEST, -LARGEST]
        for lanes in [1, 2, 3, 5, 8, 16]:
            for o in range(13):
                n = chance.randint(1, 20)
                self.assert_as_the_loop(o, lanes, [chance.choice(numbers) for count in range(n)],
                                        [chance.choice(numbers) for count in range(n)])

    def test_the_longest(self):
        code = load(map_line(0, 1024, 9))
        data = list(range(1024))
        for lanes in [1, 7, 16]:
            strips = -(-1024 // lanes)
            steps = 7 + 12 * strips
            calls = [width(lanes), code, set_array(0, data), set_array(1, data)]
            self.assertEqual(ask(*calls, run(), run(steps - 1), array_of(2))[-3:],
                             [[0, steps], [1, STEPS, 0], [0] + [2 * number for number in data]])


if __name__ == "__main__":
    unittest.main()
