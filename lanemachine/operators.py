"""The operators. Each answers a number, or None where it is refused.

An operator is refused for one reason only, so None is enough: refusal_kind tells which.
"""

from lanemachine.limits import BIG, DOMAIN, LARGEST, SMALLEST, ZERO


def plus(a, b):
    total = a + b
    return total if SMALLEST <= total <= LARGEST else None


def minus(a, b):
    difference = a - b
    return difference if SMALLEST <= difference <= LARGEST else None


def times(a, b):
    product = a * b
    return product if SMALLEST <= product <= LARGEST else None


def quotient(a, b):
    if b == 0:
        return None
    return a // b


def remainder(a, b):
    if b == 0:
        return None
    return a % b


def smaller(a, b):
    return a if a < b else b


def larger(a, b):
    return a if a > b else b


def is_less(a, b):
    return 1 if a < b else 0


def is_at_most(a, b):
    return 1 if a <= b else 0


def is_equal(a, b):
    return 1 if a == b else 0


def is_unequal(a, b):
    return 1 if a != b else 0


def is_truth(number):
    return number == 0 or number == 1


def both_true(a, b):
    if not is_truth(a) or not is_truth(b):
        return None
    return a * b


def either_true(a, b):
    if not is_truth(a) or not is_truth(b):
        return None
    return larger(a, b)


def negative(a):
    return -a


def magnitude(a):
    return abs(a)


def sign_of(a):
    if a == 0:
        return 0
    return 1 if a > 0 else -1


def opposite(a):
    if not is_truth(a):
        return None
    return 1 - a


# The call map numbers the operators of two operands by their order here.
OF_TWO = {
    "add": plus,
    "sub": minus,
    "mul": times,
    "quo": quotient,
    "rem": remainder,
    "min": smaller,
    "max": larger,
    "lt": is_less,
    "le": is_at_most,
    "eq": is_equal,
    "ne": is_unequal,
    "and": both_true,
    "or": either_true,
}

OF_ONE = {"neg": negative, "abs": magnitude, "sign": sign_of, "not": opposite}


def refusal_kind(operator):
    if operator in ("add", "sub", "mul"):
        return BIG
    if operator in ("quo", "rem"):
        return ZERO
    return DOMAIN
