"""Speakers write a script of two texts of equal length as they come, letter by letter, by a rulebook."""

from saidearly.errors import Finished
from saidearly.grids import least_script
from saidearly.prices import prices_of_pair

NO_PROMISE = ("none",)


class Speaker:
    """What waits and what was said of two texts that come tick by tick."""

    def __init__(self, book, pair):
        self._book = book
        self._pair = pair
        self._mark = 0
        self._left = ()
        self._right = ()
        self._said = ""
        self._done = False

    def tick(self, x, y):
        """Bring a letter of each text, and return what is said then."""
        if self._done:
            raise Finished()
        steps, self._mark, self._left, self._right = speak(self._book, self._mark, self._left + (x,),
                                                           self._right + (y,))
        self._said = self._said + steps
        return steps

    def finish(self):
        """Say the first of the cheapest scripts of what waits, and return it."""
        if self._done:
            raise Finished()
        prices = prices_of_pair(self._pair, self._left + self._right)
        steps = least_script(self._left, self._right, prices, NO_PROMISE)
        self._done = True
        self._left = ()
        self._right = ()
        self._said = self._said + steps
        return steps

    def said(self):
        return self._said

    def waiting(self, side):
        if side == "left":
            return self._left
        return self._right

    def mark(self):
        return self._mark

    def paid(self):
        """Return the price of what was said."""
        return paid_for(self._said, self._pair)

    def copied(self):
        """Return a speaker in the same state that goes on by itself."""
        other = Speaker(self._book, self._pair)
        other._mark = self._mark
        other._left = self._left
        other._right = self._right
        other._said = self._said
        other._done = self._done
        return other


def spoken(book, pair, left, right):
    """Return what a speaker says of two texts of equal length in all."""
    speaker = Speaker(book, pair)
    for x, y in zip(left, right):
        speaker.tick(x, y)
    speaker.finish()
    return speaker.said()


def speak(book, mark, left, right):
    """Return what a speaker says of waiting letters at a mark, then its mark and what waits on each side.

    The letters need not be real ones; the numbers of a pattern do as well.
    """
    said = []
    while True:
        steps, mark = _next_steps(book, mark, left, right)
        if steps == "":
            return "".join(said), mark, left, right
        said.append(steps)
        left = left[many_used(steps, "d"):]
        right = right[many_used(steps, "p"):]


def many_used(steps, word):
    """Return how many letters of its side, "d" for the left one and "p" for the right one, steps use."""
    return steps.count("k") + steps.count(word)


def paid_for(script, pair):
    """Return the price of a script by a pair."""
    return script.count("d") * pair[0] + script.count("p") * pair[1]


def _next_steps(book, mark, left, right):
    """Return the steps that are said next, and the mark behind them; no steps if nothing is said."""
    for rule in book.rules():
        if _can_go(rule, mark, left, right):
            return rule[2], rule[3]
    if len(left) >= book.window():
        return "d", mark
    if len(right) >= book.window():
        return "p", mark
    return "", mark


def _can_go(rule, mark, left, right):
    if rule[0] is not None and rule[0] != mark:
        return False
    if many_used(rule[2], "d") > len(left) or many_used(rule[2], "p") > len(right):
        return False
    return all([_is_met(test, left, right) for test in rule[1]])


def _is_met(test, left, right):
    """Tell whether a test holds of the waiting letters."""
    if test[0] in ("same", "unlike"):
        i, j = test[1], test[2]
        if i >= len(left) or j >= len(right):
            return False
        return (left[i] == right[j]) == (test[0] == "same")
    text = left if test[1] == "left" else right
    if test[0] == "many":
        return len(text) >= test[2]
    return test[3] < len(text) and text[test[2]] == text[test[3]]
