"""What scripts of two texts cost beyond their least, where they begin so or go through a point."""

from saidearly.errors import NotAScript
from saidearly.grids import least, rests
from saidearly.scripts import first_undone, is_allowed, points, price

NO_PROMISE = ("none",)


def rest_least(left, right, prices, promise, point):
    """Return the smallest price of allowed steps from a point to the end of both texts, or None."""
    i, j = point
    return rests(left, right, prices, promise)[i][j]


def loss_of_script(left, right, prices, promise, script):
    """Return how much more than the least a script costs that begins so, or None."""
    index = first_undone(script, left, right)
    if index is not None:
        raise NotAScript(index)
    whole = least(left, right, prices, promise)
    if whole is None or not is_allowed(script, promise):
        return None
    # Where some allowed script leads to the ends, from each point of an allowed one steps lead there, too.
    i, j = points(script)[-1]
    return price(script, left[:i], right[:j], prices) + rest_least(left, right, prices, promise, (i, j)) - whole


def there_and_back(left, right, prices, point):
    """Return the least of the beginnings up to a point, plus the least of the way back."""
    i, j = point
    there = least(left[:i], right[:j], prices, NO_PROMISE)
    return there + least(right[:j], left[:i], prices, NO_PROMISE)
