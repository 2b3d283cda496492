"""The tips of the rim, by which standings are told from one another."""

from saidearly.errors import NotComparable
from saidearly.standings import echo


def tips(standing):
    """Return the tips (side, rest, D) of a standing, in the order of the rim."""
    return [_tip(standing, point, worth) for point, worth in _busy(standing)]


def form(standing):
    """Return the tuple (sides, offset, tips), by which all that may come behind a standing is told."""
    offset = 0
    if open_sides(standing) and standing.promised()[0] == "lag":
        offset = len(standing.head("right")) - len(standing.head("left"))
    return open_sides(standing), offset, tuple(tips(standing))


def alike(one, other):
    """Tell whether two standings have the same least behind each going-on."""
    _compare(one, other)
    return form(one) == form(other)


def parting(one, other):
    """Return a going-on behind which two standings differ, or None if they are alike."""
    _compare(one, other)
    offsets = (form(one)[1], form(other)[1])
    if offsets[0] != offsets[1]:
        return _parting_by_length(open_sides(one), one.promised()[1], offsets)
    return _parting_by_tips(one, other)


def open_sides(standing):
    """Return the ascending tuple of the open sides."""
    return tuple([side for side in ("left", "right") if standing.is_open(side)])


def _compare(one, other):
    """Refuse standings that differ in their prices, their promises or their open sides."""
    if one.prices() != other.prices() or one.promised() != other.promised():
        raise NotComparable()
    if open_sides(one) != open_sides(other):
        raise NotComparable()


def _parting_by_length(sides, lag, offsets):
    """Return a going-on that leads one standing just to its lag and the other one beyond it."""
    if "left" in sides:
        ahead = max(offsets) + lag
    else:
        ahead = min(offsets) - lag
    # Only the number of letters matters; a negative one gives the empty text.
    return (0,) * ahead, (0,) * -ahead


def _parting_by_tips(one, other):
    """Return the echo of the cheapest tip that only one of two standings has, or None.

    If the other one had the same least there, this would be by a cheaper tip. Both would have that tip, and
    the cheapest one would be idle.
    """
    lone = _lone_tips(one, other) + _lone_tips(other, one)
    if not lone:
        return None
    worth = min([tip_worth for tip_worth, _ in lone])
    return [going_on for tip_worth, going_on in lone if tip_worth == worth][0]


def _lone_tips(standing, rival):
    """Return the tuples (D, echo) of the tips that a rival does not have."""
    shared = tips(rival)
    return [(worth, echo(standing, point)) for point, worth in _busy(standing)
            if _tip(standing, point, worth) not in shared]


def _busy(standing):
    """Return the tuples (point, D) of the rim points that are not idle."""
    rim = standing.rim()
    worths = {point: worth for point, worth in rim}
    left = standing.head("left")
    right = standing.head("right")
    prices = standing.prices()
    return [(point, worth) for point, worth in rim
            if worth not in _led_worths(worths, _leads(left, right, prices, point))]


def _led_worths(worths, leads):
    """Return what a point would cost by way of each neighbour that is on the rim."""
    return [worths[neighbour] + cost for neighbour, cost in leads if neighbour in worths]


def _leads(left, right, prices, point):
    """Return the tuples (neighbour, cost) of leading from the neighbours to a point."""
    i, j = point
    found = []
    if j == len(right) and i > 0:
        found.append(((i - 1, j), prices.drop(left[i - 1])))
    if j == len(right) and i < len(left):
        found.append(((i + 1, j), prices.put(left[i])))
    if i == len(left) and j > 0:
        found.append(((i, j - 1), prices.put(right[j - 1])))
    if i == len(left) and j < len(right):
        found.append(((i, j + 1), prices.drop(right[j])))
    return found


def _tip(standing, point, worth):
    i, j = point
    left = standing.head("left")
    right = standing.head("right")
    if i < len(left):
        return "left", left[i:], worth
    if j < len(right):
        return "right", right[j:], worth
    return "corner", (), worth
