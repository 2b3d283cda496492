"""Tells of any value whether it is an integer, a letter, a text and so on."""

GREATEST_LETTER = 10 ** 9
GREATEST_LAG = 4
GREATEST_TOTAL = 60
GREATEST_OF_PAIR = 3


def is_integer(thing):
    """Truths are instances of int, too, but no integers."""
    return isinstance(thing, int) and not isinstance(thing, bool)


def is_within(thing, low, high):
    """Tell whether thing is an integer from low to high."""
    return is_integer(thing) and low <= thing <= high


def is_letter(thing):
    return is_within(thing, 0, GREATEST_LETTER)


def is_text(thing):
    return isinstance(thing, tuple) and all([is_letter(letter) for letter in thing])


def is_side(thing):
    return isinstance(thing, str) and thing in ("left", "right")


def is_script(thing):
    return isinstance(thing, str) and all([step in "kdp" for step in thing])


def is_promise(thing):
    if not isinstance(thing, tuple):
        return False
    if len(thing) == 1:
        return thing[0] == "none"
    if len(thing) != 2:
        return False
    if thing[0] == "lag":
        return is_within(thing[1], 1, GREATEST_LAG)
    return thing[0] == "total" and is_within(thing[1], 0, GREATEST_TOTAL)


def is_pair(thing):
    return is_tuple_of_two(thing) and all([is_within(part, 1, GREATEST_OF_PAIR) for part in thing])


def is_going_on(thing):
    return is_tuple_of_two(thing) and is_text(thing[0]) and is_text(thing[1])


def is_tuple_of_two(thing):
    return isinstance(thing, tuple) and len(thing) == 2
