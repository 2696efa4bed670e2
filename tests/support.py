"""Calls and answers in a readable form, and code that looks at what a run holds.

The calls show what a run has left, and a run that stops leaves nothing; so a Probe looks within the run,
by code: it compares and divides by the outcome. If what it finds is not what was expected, the run stops
with ZERO (4) at the place 900000 and up; so an answer without such a place says that all was as expected.
"""

from lanemachine.machine import answers

LARGEST = 10 ** 18

LONG, FORM, NONE, LIMIT, ABSENT, DATA = [-1], [-2], [-3], [-4], [-5], [-6]
INDEX, ZERO, BIG, DOMAIN, STEPS, OUT = 3, 4, 5, 7, 9, 12

OPERATORS = ["add", "sub", "mul", "quo", "rem", "min", "max", "lt", "le", "eq", "ne", "and", "or"]


def to_bytes(text):
    return list(text.encode("ascii")) if isinstance(text, str) else list(text)


def with_count(row):
    return [len(row)] + list(row)


def load(text):
    return [0] + with_count(to_bytes(text))


def where(text):
    return [1] + with_count(to_bytes(text))


def plain():
    return [2]


def width(n):
    return [3, n]


def set_array(n, data):
    return [4, n] + with_count(data)


def run(budget=100000):
    return [5, budget]


def array_of(n):
    return [6, n]


def vector_of(k):
    return [7, k]


def scalar_of(k):
    return [8, k]


def mask_of(k):
    return [9, k]


def map_of(o, n, p):
    return [10, o, n, p]


def split(answered):
    rows = []
    at = 0
    while at < len(answered):
        rows.append(answered[at + 1:at + 1 + answered[at]])
        at += 1 + answered[at]
    if at != len(answered):
        raise ValueError("the last answer is cut off")
    return rows


def ask(*calls):
    """The answers of these calls on one new machine, a list for each."""
    return split(answers([number for call in calls for number in call]))


def ask_last(*calls):
    return ask(*calls)[-1]


def plain_of(text):
    """The plain text of a text that is a code."""
    loaded, answer = ask(load(text), plain())
    if len(loaded) != 2 or answer[0] != 0:
        raise ValueError("no code: " + repr(text))
    return bytes(answer[1:]).decode("ascii")


def told(number):
    return "_" + str(-number) if number < 0 else str(number)


def lanes_code(vector, numbers):
    """Code that puts these numbers into the lanes of a vector register (s13, s14 are changed)."""
    return "".join(f"num s13 {lane};num s14 {told(number)};put v{vector} s13 s14;"
                   for lane, number in enumerate(numbers))


def mask_code(mask, lanes):
    """Code that puts a mask on in the lanes that hold 1, whatever lanes have failed (m7 is changed)."""
    code = f"less m{mask} m{mask} m{mask};"
    for lane, on in enumerate(lanes):
        if on:
            code += only_lane(7, lane) + f"either m{mask} m{mask} m7;"
    return code


def only_lane(mask, lane):
    """Code that puts a mask on in one lane only (m6 and s13 are changed)."""
    return (f"num s13 {lane + 1};tail m{mask} s13;num s13 {lane};tail m6 s13;less m{mask} m{mask} m6;")


class Probe:
    """Code with checks behind it. The checks change s12 to s15, v15, m6 and m7 and nothing else."""

    def __init__(self, code):
        self.code = code
        self.checks = 0

    def scalar(self, number, expected):
        place = 900000 + self.checks
        self.checks += 1
        self.code += (f"num s14 {told(expected)};calc eq s14 s14 s{number} @0;"
                      f"num s15 0;calc quo s15 s15 s14 @{place};")
        return self

    def lane(self, vector, lane, expected):
        self.code += f"num s13 {lane};get s13 v{vector} s13;"
        return self.scalar(13, expected)

    def vector(self, vector, expected):
        for lane, number in enumerate(expected):
            self.lane(vector, lane, number)
        return self

    def mask(self, mask, expected):
        for lane, on in enumerate(expected):
            self.code += only_lane(7, lane) + f"both m7 m7 m{mask};count s13 m7;"
            self.scalar(13, on)
        return self

    def array(self, array, expected, by_lane=0):
        """The array's numbers, read by a lane that has not failed."""
        for index, number in enumerate(expected):
            self.code += (only_lane(7, by_lane) + f"num s12 {by_lane};num s13 {index};put v15 s12 s13;"
                          f"read v15 a{array} v15 ?m7;get s13 v15 s12;")
            self.scalar(13, number)
        return self

    def answer(self, lanes=4, arrays=()):
        calls = [width(lanes), load(self.code)]
        calls += [set_array(n, data) for n, data in enumerate(arrays)]
        return ask_last(*calls, run())
