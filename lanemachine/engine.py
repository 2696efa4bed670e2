"""A run: the instructions of a code, done one after the other on registers and arrays."""

from lanemachine.limits import INDEX, MASKS, OUT, SCALARS, STEPS, VECTORS
from lanemachine.operators import OF_ONE, OF_TWO, refusal_kind


class Stop(Exception):
    """A run ends here, with a kind and a place."""

    def __init__(self, kind, place):
        self.kind = kind
        self.place = place


class Registers:
    """All registers and masks as at a run's beginning; a mask's lane is 1 if it is on."""

    def __init__(self, width):
        self.width = width
        self.vectors = [[0] * width for number in range(VECTORS)]
        self.scalars = [0] * SCALARS
        self.masks = [[0] * width for number in range(MASKS)]


class Run:
    """What one run works on: a stop can then leave the machine as it was."""

    def __init__(self, width, arrays, budget):
        self.registers = Registers(width)
        self.arrays = [list(array) for array in arrays]
        self.left = budget
        self.faults = [None] * width
        self.unfailed = list(range(width))


def take_step(run):
    if run.left == 0:
        raise Stop(STEPS, 0)
    run.left = run.left - 1


def fail(run, lane, kind, place):
    run.faults[lane] = (kind, place)
    # A new list, since the lanes of the old one may just be gone through.
    run.unfailed = [other for other in run.unfailed if other != lane]


def active_lanes(run, told):
    if told.mask is None:
        return run.unfailed
    mask = run.registers.masks[told.mask]
    return [lane for lane in run.unfailed if mask[lane] == 1]


def vector(run, told, operand):
    return run.registers.vectors[told.operands[operand]]


def mask_lanes(run, told, operand):
    return run.registers.masks[told.operands[operand]]


def scalar(run, told, operand):
    return run.registers.scalars[told.operands[operand]]


def hold(run, told, number):
    run.registers.scalars[told.operands[0]] = number


def do_lanes(run, told):
    target = vector(run, told, 0)
    for lane in active_lanes(run, told):
        target[lane] = lane


def fill_lanes(run, told, number):
    target = vector(run, told, 0)
    for lane in active_lanes(run, told):
        target[lane] = number


def do_const(run, told):
    fill_lanes(run, told, told.operands[1])


def do_fill(run, told):
    fill_lanes(run, told, scalar(run, told, 1))


def do_copy(run, told):
    target = vector(run, told, 0)
    source = vector(run, told, 1)
    for lane in active_lanes(run, told):
        target[lane] = source[lane]


def do_one(run, told):
    operator = OF_ONE[told.operator]
    target = vector(run, told, 0)
    source = vector(run, told, 1)
    for lane in active_lanes(run, told):
        number = operator(source[lane])
        if number is None:
            fail(run, lane, refusal_kind(told.operator), told.place)
        else:
            target[lane] = number


def do_two(run, told):
    operator = OF_TWO[told.operator]
    target = vector(run, told, 0)
    first = vector(run, told, 1)
    second = vector(run, told, 2)
    for lane in active_lanes(run, told):
        number = operator(first[lane], second[lane])
        if number is None:
            fail(run, lane, refusal_kind(told.operator), told.place)
        else:
            target[lane] = number


def take_from_array(run, told, kind, place):
    target = vector(run, told, 0)
    array = run.arrays[told.operands[1]]
    where = vector(run, told, 2)
    for lane in active_lanes(run, told):
        if 0 <= where[lane] < len(array):
            target[lane] = array[where[lane]]
        else:
            fail(run, lane, kind, place)


def do_read(run, told):
    take_from_array(run, told, OUT, 0)


def do_pick(run, told):
    take_from_array(run, told, INDEX, told.place)


def do_write(run, told):
    array = run.arrays[told.operands[0]]
    where = vector(run, told, 1)
    source = vector(run, told, 2)
    for lane in active_lanes(run, told):
        if 0 <= where[lane] < len(array):
            array[where[lane]] = source[lane]
        else:
            fail(run, lane, OUT, 0)


def do_test(run, told):
    target = mask_lanes(run, told, 0)
    source = vector(run, told, 1)
    for lane in active_lanes(run, told):
        target[lane] = 1 if source[lane] != 0 else 0


def do_tail(run, told):
    target = mask_lanes(run, told, 0)
    bound = scalar(run, told, 1)
    for lane in range(run.registers.width):
        target[lane] = 1 if lane < bound else 0


def combine_masks(run, told, combined):
    target = mask_lanes(run, told, 0)
    first = mask_lanes(run, told, 1)
    second = mask_lanes(run, told, 2)
    for lane in range(run.registers.width):
        target[lane] = combined(first[lane], second[lane])


def do_both(run, told):
    combine_masks(run, told, lambda first, second: first & second)


def do_less(run, told):
    combine_masks(run, told, lambda first, second: first & (1 - second))


def do_either(run, told):
    combine_masks(run, told, lambda first, second: first | second)


def do_count(run, told):
    hold(run, told, sum(mask_lanes(run, told, 1)))


def do_num(run, told):
    hold(run, told, told.operands[1])


def do_width(run, told):
    hold(run, told, run.registers.width)


def do_calc(run, told):
    operator = OF_TWO[told.operator]
    number = operator(scalar(run, told, 1), scalar(run, told, 2))
    if number is None:
        raise Stop(refusal_kind(told.operator), told.place)
    hold(run, told, number)


def told_lane(run, number):
    if number < 0 or number >= run.registers.width:
        raise Stop(OUT, 0)
    return number


def do_get(run, told):
    source = vector(run, told, 1)
    hold(run, told, source[told_lane(run, scalar(run, told, 2))])


def do_put(run, told):
    target = vector(run, told, 0)
    target[told_lane(run, scalar(run, told, 1))] = scalar(run, told, 2)


def do_for(run, told):
    for number in range(scalar(run, told, 1)):
        take_step(run)
        hold(run, told, number)
        do_all(run, told.body)


def do_when(run, told):
    if scalar(run, told, 0) != 0:
        do_all(run, told.body)
    else:
        do_all(run, told.otherwise)


def raise_first_fault(run):
    for fault in run.faults:
        if fault is not None:
            raise Stop(fault[0], fault[1])


def do_raise(run, told):
    raise_first_fault(run)


ACTIONS = {
    "lanes": do_lanes,
    "const": do_const,
    "fill": do_fill,
    "copy": do_copy,
    "one": do_one,
    "two": do_two,
    "read": do_read,
    "pick": do_pick,
    "write": do_write,
    "test": do_test,
    "tail": do_tail,
    "both": do_both,
    "less": do_less,
    "either": do_either,
    "count": do_count,
    "num": do_num,
    "width": do_width,
    "calc": do_calc,
    "get": do_get,
    "put": do_put,
    "for": do_for,
    "when": do_when,
    "raise": do_raise,
}


def do_all(run, body):
    """The instructions of one { } or of the code; { } stand in few others, so this may come to call itself."""
    for told in body:
        take_step(run)
        action = ACTIONS[told.action]
        action(run, told)


def finished_run(code, width, arrays, budget):
    """The run of a code from its beginning to its end; Stop if it does not come there."""
    run = Run(width, arrays, budget)
    do_all(run, code.body)
    raise_first_fault(run)
    return run
