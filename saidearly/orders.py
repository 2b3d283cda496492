"""How much more one standing may come to cost than another one."""

from saidearly.errors import NotComparable
from saidearly.standings import echo, price_behind
from saidearly.tips import open_sides


def greatest_difference(one, other):
    """Return the greatest lead of one over other, and the first echo of one at which it is reached."""
    if one.prices() != other.prices() or open_sides(one) != open_sides(other):
        raise NotComparable()
    if one.promised() != ("none",) or other.promised() != ("none",):
        raise NotComparable()
    best = None
    for point, worth in one.rim():
        going_on = echo(one, point)
        number = price_behind(other, going_on) - worth
        if best is None or number > best[0]:
            best = (number, going_on)
    return best
