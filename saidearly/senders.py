"""Senders tell which texts can come."""

from saidearly.errors import BadArrow, Wrong
from saidearly.letters import is_within
from saidearly.patterns import ticks

MOST_PLACES = 6
LONGEST_SPAN = 4
MOST_SENDER_ARROWS = 12


class Sender:
    """Places, and arrows that tell the letters of a tick; nothing changes them."""

    def __init__(self, places, span, arrows, ends):
        if not is_within(places, 1, MOST_PLACES):
            raise Wrong(0)
        if not is_within(span, 1, LONGEST_SPAN):
            raise Wrong(1)
        if not isinstance(arrows, tuple) or not 1 <= len(arrows) <= MOST_SENDER_ARROWS:
            raise Wrong(2)
        if not _are_ends(ends, places):
            raise Wrong(3)
        for number, arrow in enumerate(arrows):
            if not _is_arrow(arrow, places, span):
                raise BadArrow(number)
        self._places = places
        self._span = span
        self._arrows = arrows
        self._ends = ends

    def places(self):
        return self._places

    def span(self):
        return self._span

    def arrows(self):
        return self._arrows

    def ends(self):
        return self._ends

    def sends(self, left, right):
        """Tell whether some run sends two texts, which may end behind them."""
        if len(left) != len(right):
            return False
        at = [0]
        for number in range(len(left)):
            at = self._behind(at, left[:number], right[:number], (left[number], right[number]))
        return any([place in self._ends for place in at])

    def moves(self, place, pattern):
        """Return the tuples (x, y, to) of the ticks of a pattern with which a run can go on from a place."""
        return [(tick[0], tick[1], to) for tick in ticks(pattern)
                for to in self._behind([place], pattern[0], pattern[1], tick)]

    def _behind(self, at, left, right, tick):
        """Return the ascending list of the places to which a tick can lead from some place of at.

        The letters ahead of the tick, and its own ones, may as well be the numbers of a pattern.
        """
        return [to for to in range(self._places)
                if any([arrow[3] == to and arrow[0] in at and self._brings(arrow, left, right, tick)
                        for arrow in self._arrows])]

    def _brings(self, arrow, left, right, tick):
        """Tell whether an arrow can bring the letters of a tick behind these."""
        x, y = tick
        if arrow[2] == ("tick",):
            return x == y and self._is_told(arrow[1], left, right, x)
        if arrow[2] == ("new",) and x == y:
            return False
        return self._is_told(arrow[1], left, right, x) and self._is_told(arrow[2], left, right, y)

    def _is_told(self, told, left, right, letter):
        """Tell whether a letter is as an arrow tells it by what came in earlier ticks."""
        if told == ("any",):
            return True
        if told == ("new",):
            return letter not in left[-self._span:] + right[-self._span:]
        text = left if told[0] == "left" else right
        return told[1] <= len(text) and text[-told[1]] == letter


def free_sender():
    """Return the sender of all texts of equal length."""
    return Sender(1, 1, ((0, ("any",), ("any",), 0),), (0,))


def _are_ends(thing, places):
    """Tell whether any value is an ascending tuple of different places."""
    if not isinstance(thing, tuple) or not all([is_within(place, 0, places - 1) for place in thing]):
        return False
    return all([one < other for one, other in zip(thing, thing[1:])])


def _is_arrow(thing, places, span):
    if not isinstance(thing, tuple) or len(thing) != 4:
        return False
    if not is_within(thing[0], 0, places - 1) or not is_within(thing[3], 0, places - 1):
        return False
    return _is_telling(thing[1], span) and (_is_telling(thing[2], span) or thing[2] == ("tick",))


def _is_telling(thing, span):
    """Tell whether any value tells a letter of either side as an arrow may."""
    if not isinstance(thing, tuple):
        return False
    if len(thing) == 1:
        return thing[0] in ("any", "new")
    return len(thing) == 2 and thing[0] in ("left", "right") and is_within(thing[1], 1, span)
