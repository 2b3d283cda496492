"""The extra of a saying: how much more than the least a script costs that holds it."""

from saidearly.beginnings import cheapest_behind, cheapest_out
from saidearly.errors import NotLet, UnderTotal
from saidearly.sayings import check_saying
from saidearly.standings import echo, price_behind


def extra_behind(standing, saying, going_on):
    """Return the extra of a saying under a going-on, or None."""
    check_saying(saying, standing)
    worth = price_behind(standing, going_on)
    if worth is None:
        raise NotLet(going_on)
    return _less(cheapest_behind(standing, cheapest_out(standing, saying), going_on), worth)


def greatest_extra(standing, saying):
    """Return the greatest extra of a saying, and the first echo at which it is reached."""
    check_saying(saying, standing)
    return first_greatest([(extra, going_on) for extra, _, going_on in rim_extras(standing, saying)])


def least_extra(standing, saying):
    """Return the least extra of a saying, and the first echo at which it is reached."""
    check_saying(saying, standing)
    if standing.promised()[0] == "total":
        raise UnderTotal()
    found = None
    for extra, _, going_on in rim_extras(standing, saying):
        if found is None or _is_greater(found[0], extra):
            found = (extra, going_on)
    return found


def rim_extras(standing, saying):
    """Return the tuples (extra, D, echo) of the rim points, in their order."""
    cheapest = cheapest_out(standing, saying)
    found = []
    for point, worth in standing.rim():
        going_on = echo(standing, point)
        found.append((_less(cheapest_behind(standing, cheapest, going_on), worth), worth, going_on))
    return found


def first_greatest(rows):
    """Return the first one of tuples, of which there is one at least, whose first item is the greatest."""
    found = rows[0]
    for row in rows:
        if _is_greater(row[0], found[0]):
            found = row
    return found


def _less(one, other):
    """Return how much one is more than other, or None if one is missing."""
    if one is None:
        return None
    return one - other


def _is_greater(one, other):
    """Tell whether one is greater than other; None is greater than any integer."""
    if other is None:
        return False
    return one is None or one > other
