"""Rulebooks tell speakers what to say of the letters that wait."""

from saidearly.errors import BadRule, KeepNotShown, Wrong
from saidearly.letters import is_script, is_side, is_within
from saidearly.scripts import kept, points

WIDEST_WINDOW = 4
MOST_MARKS = 3
MOST_RULES = 8
MOST_TESTS = 4
MOST_DEEDS = 4


class Rulebook:
    """Rules for a window and some marks; nothing changes them."""

    def __init__(self, window, marks, rules):
        if not is_window(window):
            raise Wrong(0)
        if not are_marks(marks):
            raise Wrong(1)
        if not isinstance(rules, tuple) or len(rules) > MOST_RULES:
            raise Wrong(2)
        for number, rule in enumerate(rules):
            if not is_rule(rule, window, marks):
                raise BadRule(number)
        for number, rule in enumerate(rules):
            if not _shows_keeps(rule):
                raise KeepNotShown(number)
        self._window = window
        self._marks = marks
        self._rules = rules

    def window(self):
        return self._window

    def marks(self):
        return self._marks

    def rules(self):
        return self._rules

    def __eq__(self, other):
        return (isinstance(other, Rulebook) and self._window == other._window and self._marks == other._marks
                and self._rules == other._rules)


def is_window(thing):
    return is_within(thing, 1, WIDEST_WINDOW)


def are_marks(thing):
    """Tell whether any value is a number of marks."""
    return is_within(thing, 1, MOST_MARKS)


def is_rule(thing, window, marks):
    """Tell whether any value is a rule for a window and so many marks; its keeps need not be shown."""
    if not isinstance(thing, tuple) or len(thing) != 4:
        return False
    mark, tests, deeds, after = thing
    if mark is not None and not is_within(mark, 0, marks - 1):
        return False
    return _are_tests(tests, window) and _are_deeds(deeds, window) and is_within(after, 0, marks - 1)


def _are_tests(thing, window):
    if not isinstance(thing, tuple) or len(thing) > MOST_TESTS:
        return False
    return all([_is_test(test, window) for test in thing])


def _is_test(thing, window):
    if not isinstance(thing, tuple) or len(thing) not in (3, 4):
        return False
    if len(thing) == 4:
        word, side, i, k = thing
        return word == "twin" and is_side(side) and _are_places((i, k), window) and i < k
    if thing[0] == "many":
        return is_side(thing[1]) and is_within(thing[2], 1, window)
    return thing[0] in ("same", "unlike") and _are_places(thing[1:], window)


def _are_places(things, window):
    return all([is_within(thing, 0, window - 1) for thing in things])


def _are_deeds(thing, window):
    if not is_script(thing) or not 1 <= len(thing) <= MOST_DEEDS:
        return False
    i, j = points(thing)[-1]
    return i <= window and j <= window


def _shows_keeps(rule):
    return all([("same", i, j) in rule[1] for i, j in kept(rule[2])])
