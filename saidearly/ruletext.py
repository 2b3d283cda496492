"""Rulebooks written as lines of words, and read from them."""

from saidearly.errors import BadLine
from saidearly.rulebooks import MOST_RULES, Rulebook, are_marks, is_rule, is_window

DIGITS = "0123456789"


def write_rules(book):
    """Return the lines that write a rulebook."""
    lines = ["window " + str(book.window()) + " marks " + str(book.marks())]
    lines.extend([_written(rule) for rule in book.rules()])
    return "".join([line + "\n" for line in lines])


def read_rules(text):
    """Return the rulebook that a string writes."""
    lines = text.split("\n")
    window, marks = _read_head(lines[0])
    rules = []
    for number in range(1, len(lines) - 1):
        rule = _read_rule(lines[number])
        if number > MOST_RULES or not is_rule(rule, window, marks):
            raise BadLine(number)
        rules.append(rule)
    # What stands behind the last line feed would be a line without its own.
    if lines[-1] != "":
        raise BadLine(len(lines) - 1)
    return Rulebook(window, marks, tuple(rules))


def _written(rule):
    mark, tests, deeds, after = rule
    words = ["any" if mark is None else str(mark)]
    if tests:
        words.append("if")
        words.append(" and ".join([_written_test(test) for test in tests]))
    words.extend(["do", deeds, "then", str(after)])
    return " ".join(words)


def _written_test(test):
    return " ".join([str(item) for item in test])


def _read_head(line):
    """Return the window and the marks of line 0."""
    words = [_read_item(word) for word in line.split(" ")]
    if len(words) != 4 or words[0] != "window" or words[2] != "marks":
        raise BadLine(0)
    if not is_window(words[1]) or not are_marks(words[3]):
        raise BadLine(0)
    return words[1], words[3]


def _read_rule(line):
    """Return what a line writes, which is a rule only if the line is one for some window and marks."""
    words = line.split(" ")
    if len(words) < 5 or words[-4] != "do" or words[-2] != "then":
        return None
    mark = None if words[0] == "any" else _read_item(words[0])
    return mark, _read_tests(words[1:-4]), words[-3], _read_item(words[-1])


def _read_tests(words):
    """Return the tests that these words write, or None if they write none as they should."""
    if not words:
        return ()
    if words[0] != "if":
        return None
    tests = []
    items = []
    for word in words[1:]:
        if word == "and":
            tests.append(tuple(items))
            items = []
        else:
            items.append(_read_item(word))
    tests.append(tuple(items))
    return tuple(tests)


def _read_item(word):
    """Return the number that a word writes by one digit, and any other word itself."""
    if len(word) == 1 and word in DIGITS:
        return int(word)
    return word
