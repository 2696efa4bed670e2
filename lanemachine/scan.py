"""The tokens of a code's text, read one at a time from a list of bytes.

A token is read only when it is its turn: so whatever is wrong first in the text is found first,
whether it is a token in a wrong place or a byte at which no token begins.
"""

from lanemachine.limits import LARGEST

LETTERS = "abcdefghijklmnopqrstuvwxyz"
DIGITS = "0123456789"
SIGNS = {59: ";", 123: "{", 125: "}", 64: "@", 63: "?", 95: "_"}
BLANKS = (32, 9, 10, 13)
REMARK_BEGINS = 35
REMARK_ENDS = 10
BYTE_OF_0 = 48
BYTE_OF_A = 97


class FormError(Exception):
    """A text is no code; position tells where it first goes wrong."""

    def __init__(self, position):
        self.position = position


class Token:
    """A word, a number or a sign by its text; the text's end is a token whose text is empty."""

    def __init__(self, text, start, end):
        self.text = text
        self.start = start
        self.end = end


def is_digit(byte):
    return BYTE_OF_0 <= byte < BYTE_OF_0 + len(DIGITS)


def is_letter(byte):
    return BYTE_OF_A <= byte < BYTE_OF_A + len(LETTERS)


def character(byte):
    if is_digit(byte):
        return DIGITS[byte - BYTE_OF_0]
    return LETTERS[byte - BYTE_OF_A]


def characters(text, start, end):
    return "".join([character(byte) for byte in text[start:end]])


def decimal(digits, most):
    """The number that the digits tell, or None where they tell none from 0 to most."""
    # The length is looked at first, since Python refuses to turn thousands of digits into a number.
    if not digits.isdigit() or len(digits) > len(str(most)):
        return None
    if digits[0] == "0" and len(digits) > 1:
        return None
    number = int(digits)
    return number if number <= most else None


def remark_end(text, at):
    end = at
    while end < len(text) and text[end] != REMARK_ENDS:
        end = end + 1
    return end


def token_start(text, at):
    start = at
    while start < len(text):
        if text[start] in BLANKS:
            start = start + 1
        elif text[start] == REMARK_BEGINS:
            start = remark_end(text, start)
        else:
            return start
    return start


def word_at(text, start):
    end = start
    while end < len(text) and (is_letter(text[end]) or is_digit(text[end])):
        end = end + 1
    return Token(characters(text, start, end), start, end)


def number_at(text, start):
    end = start
    while end < len(text) and is_digit(text[end]):
        end = end + 1
    digits = characters(text, start, end)
    if decimal(digits, LARGEST) is None:
        raise FormError(start)
    return Token(digits, start, end)


def token_at(text, at):
    """The first token at or behind the position at."""
    start = token_start(text, at)
    if start == len(text):
        return Token("", start, start)
    byte = text[start]
    if byte in SIGNS:
        return Token(SIGNS[byte], start, start + 1)
    if is_letter(byte):
        return word_at(text, start)
    if is_digit(byte):
        return number_at(text, start)
    raise FormError(start)
