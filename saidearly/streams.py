"""Deltas written in lines, also while their scripts are said."""

from saidearly.deltas import deeds_of, is_deed, joined
from saidearly.errors import BadLine

DIGITS = "0123456789"
MOST_DIGITS = 10


def written(delta):
    """Return the lines that write a delta."""
    return "".join([_line_of(deed) for deed in delta])


def read(text):
    """Return the delta that a string writes."""
    lines = text.split("\n")
    found = []
    for number in range(len(lines) - 1):
        deed = _deed_in(lines[number])
        if not is_deed(deed) or (found and found[-1][0] == deed[0]):
            raise BadLine(number)
        found.append(deed)
    # What stands behind the last line feed is a line without its own.
    if lines[-1] != "":
        raise BadLine(len(lines) - 1)
    return found


class Writer:
    """Writes a delta while its script is said."""

    def __init__(self):
        # The last deed, which may still grow, or nothing.
        self._last = []

    def say(self, steps, text):
        """Take steps and the letters that they put, and return the lines that are done."""
        deeds = joined(self._last + deeds_of(steps, text, "p"))
        self._last = deeds[-1:]
        return written(deeds[:-1])

    def close(self):
        """Return the last line, and be as a new writer."""
        line = written(self._last)
        self._last = []
        return line


def _line_of(deed):
    word, load = deed
    if word == "put":
        return " ".join([word] + [str(letter) for letter in load]) + "\n"
    return word + " " + str(load) + "\n"


def _deed_in(line):
    """Return what a line writes, which is a deed only if the line is one."""
    words = line.split(" ")
    numbers = [_number_in(word) for word in words[1:]]
    if words[0] == "put":
        return words[0], tuple(numbers)
    if len(numbers) == 1:
        return words[0], numbers[0]
    return None


def _number_in(word):
    """Return the number that a word writes in few digits without needless zeros, or None."""
    if not 1 <= len(word) <= MOST_DIGITS or not all([sign in DIGITS for sign in word]):
        return None
    if word[0] == "0" and len(word) > 1:
        return None
    return int(word)
