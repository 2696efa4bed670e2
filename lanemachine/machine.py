"""The calls on one machine, told in a list of whole numbers, and their answers."""

from lanemachine.engine import Registers, Stop, finished_run
from lanemachine.grammar import read_code
from lanemachine.limits import FIRST_WIDTH, LARGEST, MOST_BUDGET, MOST_BYTES, MOST_LENGTH, MOST_WIDTH, SMALLEST
from lanemachine.limits import REFUSED_ABSENT, REFUSED_DATA, REFUSED_FORM, REFUSED_LIMIT, REFUSED_LONG, REFUSED_NONE
from lanemachine.operators import OF_TWO
from lanemachine.plaintext import map_text, plain_text
from lanemachine.scan import FormError


class Machine:
    """A machine between two calls. Faults are not kept: a run that has one ends with a stop."""

    def __init__(self):
        self.code = None
        self.arrays = []
        self.registers = Registers(FIRST_WIDTH)


def answer_load(machine, numbers, text):
    if len(text) > MOST_BYTES:
        return [REFUSED_LONG]
    try:
        code = read_code(text)
    except FormError:
        return [REFUSED_FORM]
    machine.code = code
    machine.arrays = [[0] * length for length in code.lengths]
    machine.registers = Registers(machine.registers.width)
    return [len(code.lengths), code.size]


def answer_where(machine, numbers, text):
    if len(text) > MOST_BYTES:
        return [1, 0]
    try:
        read_code(text)
    except FormError as wrong:
        return [2, wrong.position]
    return [0, 0]


def answer_plain(machine, numbers, row):
    if machine.code is None:
        return [REFUSED_NONE]
    return [0] + plain_text(machine.code)


def answer_width(machine, numbers, row):
    width = numbers[0]
    if width < 1 or width > MOST_WIDTH:
        return [REFUSED_LIMIT]
    machine.registers = Registers(width)
    return [0]


def is_number(number):
    return SMALLEST <= number <= LARGEST


def is_there(rows, wanted):
    # Below 0 Python would count from the other end.
    return 0 <= wanted < len(rows)


def answer_set(machine, numbers, data):
    if machine.code is None:
        return [REFUSED_NONE]
    wanted = numbers[0]
    if not is_there(machine.arrays, wanted):
        return [REFUSED_ABSENT]
    if len(data) != len(machine.arrays[wanted]) or not all([is_number(number) for number in data]):
        return [REFUSED_DATA]
    machine.arrays[wanted] = list(data)
    return [0]


def answer_run(machine, numbers, row):
    if machine.code is None:
        return [REFUSED_NONE]
    budget = numbers[0]
    if budget < 0 or budget > MOST_BUDGET:
        return [REFUSED_LIMIT]
    try:
        run = finished_run(machine.code, machine.registers.width, machine.arrays, budget)
    except Stop as stop:
        return [1, stop.kind, stop.place]
    machine.arrays = run.arrays
    machine.registers = run.registers
    return [0, budget - run.left]


def row_held(rows, wanted):
    if not is_there(rows, wanted):
        return [REFUSED_ABSENT]
    return [0] + rows[wanted]


def answer_array(machine, numbers, row):
    if machine.code is None:
        return [REFUSED_NONE]
    return row_held(machine.arrays, numbers[0])


def answer_vector(machine, numbers, row):
    return row_held(machine.registers.vectors, numbers[0])


def answer_scalar(machine, numbers, row):
    scalars = machine.registers.scalars
    if not is_there(scalars, numbers[0]):
        return [REFUSED_ABSENT]
    return [0, scalars[numbers[0]]]


def answer_mask(machine, numbers, row):
    return row_held(machine.registers.masks, numbers[0])


def answer_map(machine, numbers, row):
    operator = numbers[0]
    length = numbers[1]
    place = numbers[2]
    if operator < 0 or operator >= len(OF_TWO):
        return [REFUSED_LIMIT]
    if length < 0 or length > MOST_LENGTH or place < 0 or place > LARGEST:
        return [REFUSED_LIMIT]
    return [0] + map_text(list(OF_TWO)[operator], length, place)


ANSWERERS = {
    0: answer_load,
    1: answer_where,
    2: answer_plain,
    3: answer_width,
    4: answer_set,
    5: answer_run,
    6: answer_array,
    7: answer_vector,
    8: answer_scalar,
    9: answer_mask,
    10: answer_map,
}
# How many whole numbers a call has, and which calls have a row behind them.
WHOLE_NUMBERS = {0: 0, 1: 0, 2: 0, 3: 1, 4: 1, 5: 1, 6: 1, 7: 1, 8: 1, 9: 1, 10: 3}
WITH_ROW = (0, 1, 4)


def answers(calls):
    """For each call, in order: how many numbers are answered, then these."""
    machine = Machine()
    answered = []
    at = 0
    while at < len(calls):
        call = calls[at]
        row_at = at + 1 + WHOLE_NUMBERS[call]
        numbers = calls[at + 1:row_at]
        row = []
        at = row_at
        if call in WITH_ROW:
            at = row_at + 1 + calls[row_at]
            row = calls[row_at + 1:at]
        answerer = ANSWERERS[call]
        answer = answerer(machine, numbers, row)
        answered.append(len(answer))
        answered.extend(answer)
    return answered
