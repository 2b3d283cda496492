"""Which of some texts may come to be nearest to a text that is still being sent."""

from saidearly.errors import NoElder, Wrong
from saidearly.grids import grid, rests
from saidearly.letters import is_integer, is_text
from saidearly.prices import Prices

MOST_ELDERS = 6
NO_PROMISE = ("none",)


class Nearest:
    """Elders, which are left texts that have ended, and one right text that is being sent."""

    def __init__(self, prices, elders):
        if not isinstance(prices, Prices):
            raise Wrong(0)
        if not _are_elders(elders):
            raise Wrong(1)
        self._prices = Prices(prices.table())
        self._elders = elders
        self._right = ()

    def grow(self, text):
        """Append a text to the right text."""
        self._right = self._right + text

    def right(self):
        return self._right

    def can_be_nearest(self):
        """Return the indexes of the elders that are nearest for some continuation."""
        # If an elder is nearest for any continuation, it is so for a rest of its own.
        rows = [row for _, row in self._searched()]
        return tuple([index for index in range(len(self._elders))
                      if any([worths[index] == min(worths) for worths in rows])])

    def loss_of(self, index):
        """Return how much an elder may be behind the nearest one, and the first text that shows it."""
        if not is_integer(index) or index not in range(len(self._elders)):
            raise NoElder(index)
        best = None
        for text, worths in self._searched():
            number = worths[index] - min(worths)
            if best is None or number > best[0]:
                best = (number, text)
        return best

    def _searched(self):
        """Return the tuples (continuation, leasts of all elders), in the order of the search."""
        columns = [self._column(elder) for elder in self._elders]
        found = []
        for target in self._elders:
            tables = [rests(elder, target, self._prices, NO_PROMISE) for elder in self._elders]
            for begin in range(len(target) + 1):
                worths = [_worth(column, table, begin) for column, table in zip(columns, tables)]
                found.append((target[begin:], worths))
        return found

    def _column(self, elder):
        """Return the least of each beginning of an elder and the whole right text."""
        return [row[-1] for row in grid(elder, self._right, self._prices, NO_PROMISE)]


def _are_elders(thing):
    if not isinstance(thing, tuple) or not 1 <= len(thing) <= MOST_ELDERS:
        return False
    return all([is_text(text) for text in thing])


def _worth(column, table, begin):
    """Return the least of an elder and the right text with the rest of a text behind it."""
    return min([worth + row[begin] for worth, row in zip(column, table)])
