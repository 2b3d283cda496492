"""Tells of any values whether they prove a bound of the losses of a table, or losses that grow without end."""

from saidearly.errors import NotARing, NotHeights
from saidearly.letters import is_integer, is_within
from saidearly.walks import misstep


def is_height_table(table, rows, num, den):
    """Tell whether rows, any value, grows along each arrow by den * gain - num at least, from 0 or more on."""
    if not is_list_of_integers(rows, len(table.stands())) or rows[0] < 0:
        return False
    return all([rows[target] >= rows[stand] + den * gain - num for stand, _, _, gain, target in table.arrows()])


def bound_by(table, rows, num, den):
    """Return what den * loss - num * ticks is at most, by heights."""
    if not is_height_table(table, rows, num, den):
        raise NotHeights()
    return max([row + den * table.closing(stand) for stand, row in enumerate(rows)])


def is_ring(table, walk):
    """Tell whether any value is a ring of a table."""
    arrows = table.arrows()
    if not isinstance(walk, list) or not walk or not is_within(walk[0], 0, len(arrows) - 1):
        return False
    start = arrows[walk[0]][0]
    if misstep(arrows, walk, start) is not None or arrows[walk[-1]][4] != start:
        return False
    begins = [arrows[number][0] for number in walk]
    return len(set(begins)) == len(begins)


def mean_of(table, walk):
    """Return the sum of the gains of a ring, and its length."""
    if not is_ring(table, walk):
        raise NotARing()
    arrows = table.arrows()
    return sum([arrows[number][3] for number in walk]), len(walk)


def is_list_of_integers(thing, many):
    """Tell whether any value is a list of so many integers."""
    return isinstance(thing, list) and len(thing) == many and all([is_integer(entry) for entry in thing])
