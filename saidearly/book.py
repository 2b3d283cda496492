"""A book leads a comparer by deeds, which can be taken back."""

from saidearly.comparer import Comparer
from saidearly.deltas import of_script
from saidearly.errors import EarlyError, NoDeed, NotClaimed, Nothing, Stopped
from saidearly.extras import greatest_extra
from saidearly.letters import is_integer, is_side, is_text
from saidearly.sayings import atoms, is_saying


class Book:
    """A comparer, the deeds that led to it, and those that were taken back."""

    def __init__(self, prices, promise, rooms):
        # A comparer is replaced as a whole, never changed, so that twins and what is done may share it.
        self._comparer = Comparer(prices, promise, rooms)
        self._prices = prices
        self._promise = promise
        self._rooms = rooms
        # Each deed with the comparer ahead of it.
        self._done = []
        self._undone = []

    def do(self, deed):
        """Do a deed, and return the steps that are said by it."""
        if not _is_deed(deed):
            raise NoDeed()
        steps = self._carry_out(deed)
        self._undone = []
        return steps

    def heads(self):
        """Return the tuple of the two heads."""
        standing = self._comparer.standing()
        return standing.head("left"), standing.head("right")

    def said(self):
        return self._comparer.said()

    def delta(self):
        """Return the delta of what was said."""
        return of_script(self.said(), self.heads()[1][:self._comparer.reached()[1]])

    def claims(self):
        """Return the tuples (saying, most) of the claims."""
        return [deed[1:] for deed in self.log() if deed[0] == "claim"]

    def log(self):
        """Return the deeds that stand."""
        return [deed for deed, _ in self._done]

    def back(self):
        """Take the last deed back, and return it."""
        if not self._done:
            raise Nothing()
        deed, comparer = self._done.pop()
        self._comparer = comparer
        self._undone.append(deed)
        return deed

    def again(self):
        """Do the last deed that was taken back once more, and return it."""
        if not self._undone:
            raise Nothing()
        deed = self._undone.pop()
        self._carry_out(deed)
        return deed

    def twin(self):
        """Return an independent book like this one, with what was taken back."""
        other = Book(self._prices, self._promise, self._rooms)
        other._comparer = self._comparer
        other._done = list(self._done)
        other._undone = list(self._undone)
        return other

    def trial(self, deeds):
        """Return a twin in which all of a list of any values are done."""
        other = self.twin()
        for index, deed in enumerate(deeds):
            try:
                other.do(deed)
            except EarlyError:
                raise Stopped(index)
        return other

    def __eq__(self, other):
        return (isinstance(other, Book) and self._prices == other._prices and self._promise == other._promise
                and self._rooms == other._rooms and self._comparer.is_like(other._comparer)
                and self.claims() == other.claims())

    def _carry_out(self, deed):
        """Do what is a deed by its form, and return the steps that are said by it."""
        comparer = self._comparer.twin()
        steps = ""
        if deed[0] == "receive":
            comparer.receive(deed[1], deed[2], deed[3])
        elif deed[0] == "close":
            comparer.close(deed[1], deed[2])
        elif deed[0] == "free":
            steps = comparer.say_free()
        elif deed[0] == "forced":
            steps = comparer.say_forced()
        else:
            _check_claim(comparer.standing(), deed[1], deed[2])
        self._done.append((deed, self._comparer))
        self._comparer = comparer
        return steps


def _check_claim(standing, saying, most):
    extra, _ = greatest_extra(standing, saying)
    if extra is None or extra > most:
        raise NotClaimed(extra)


def _is_deed(thing):
    """Tell whether any value is a deed by its form."""
    if not isinstance(thing, tuple) or not thing:
        return False
    if thing[0] == "receive":
        return len(thing) == 4 and is_side(thing[1]) and _is_count(thing[2]) and is_text(thing[3])
    if thing[0] == "close":
        return len(thing) == 3 and is_side(thing[1]) and _is_count(thing[2])
    if thing[0] == "claim":
        return len(thing) == 3 and _is_claimed(thing[1]) and _is_count(thing[2])
    return thing in (("free",), ("forced",))


def _is_count(thing):
    return is_integer(thing) and thing >= 0


def _is_claimed(thing):
    """Tell whether any value is a saying in which no "alone" stands."""
    return is_saying(thing) and not [atom for atom in atoms(thing) if atom[0] == "alone"]
