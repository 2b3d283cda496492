"""A standing holds two heads, and tells over all that may still come."""

from saidearly.errors import Broken, Ended, NotOnRim, Wrong
from saidearly.grids import grid
from saidearly.letters import is_integer, is_promise, is_tuple_of_two
from saidearly.prices import Prices


class Standing:
    """Two heads under a promise; each side is open until it is closed."""

    def __init__(self, prices, promise):
        if not isinstance(prices, Prices):
            raise Wrong(0)
        if not is_promise(promise):
            raise Wrong(1)
        self._prices = Prices(prices.table())
        self._promise = promise
        self._left = ()
        self._right = ()
        self._open = ("left", "right")
        self._rows = [[0]]

    def grow(self, side, text):
        """Append a text to the head of a side."""
        if side not in self._open:
            raise Ended(side)
        left = self._left
        right = self._right
        if side == "left":
            left = left + text
        else:
            right = right + text
        rows = grid(left, right, self._prices, self._promise)
        if not _rim_of(rows, self._open, self._promise):
            raise Broken()
        self._left = left
        self._right = right
        self._rows = rows

    def close(self, side):
        """Learn that no more comes on a side."""
        if side not in self._open:
            raise Ended(side)
        still = tuple([other for other in self._open if other != side])
        if not _rim_of(self._rows, still, self._promise):
            raise Broken()
        self._open = still

    def head(self, side):
        if side == "left":
            return self._left
        return self._right

    def is_open(self, side):
        return side in self._open

    def prices(self):
        return Prices(self._prices.table())

    def promised(self):
        return self._promise

    def twin(self):
        """Return an independent standing in the same state."""
        other = Standing(self._prices, self._promise)
        other._left = self._left
        other._right = self._right
        other._open = self._open
        # The rows of a standing are replaced as a whole, never changed, so that twins may share them.
        other._rows = self._rows
        return other

    def least(self):
        """Return the least of the heads, whatever the total is, or None."""
        return self._rows[-1][-1]

    def rim(self):
        """Return the tuples (point, D) of the rim, in its order."""
        return _rim_of(self._rows, self._open, self._promise)


def echo(standing, point):
    """Return the going-on that only brings the rest of the other text behind a rim point."""
    # True is equal to 1, so the rim alone does not tell whether the coordinates are integers.
    if not _is_point(point) or point not in [spot for spot, _ in standing.rim()]:
        raise NotOnRim(point)
    i, j = point
    return standing.head("right")[j:], standing.head("left")[i:]


def price_behind(standing, going_on):
    """Return the least of the texts grown by a going-on, or None if it is not let."""
    for side, text in zip(("left", "right"), going_on):
        if text and not standing.is_open(side):
            raise Ended(side)
    left, right = grown_texts(standing, going_on)
    worth = grid(left, right, standing.prices(), standing.promised())[-1][-1]
    if is_let(worth, standing.promised()):
        return worth
    return None


def grown_texts(standing, going_on):
    """Return the heads with a going-on behind them."""
    return standing.head("left") + going_on[0], standing.head("right") + going_on[1]


def is_let(worth, promise):
    """Tell whether texts with this least, an integer or None, may come under a promise."""
    if worth is None:
        return False
    return promise[0] != "total" or worth <= promise[1]


def _rim_of(rows, sides, promise):
    """Return the rim of heads with this grid, these sides being open."""
    return [((i, j), rows[i][j]) for i, j in _edge(len(rows) - 1, len(rows[0]) - 1, sides)
            if is_let(rows[i][j], promise)]


def _edge(n, m, sides):
    """Return the points at which one of the heads, of n and m letters, may be gone on with."""
    found = [(n, m)]
    if "right" in sides:
        found = [(i, m) for i in range(n + 1)]
    if "left" in sides:
        found.extend([(n, j) for j in reversed(range(m))])
    return found


def _is_point(thing):
    return is_tuple_of_two(thing) and is_integer(thing[0]) and is_integer(thing[1])
