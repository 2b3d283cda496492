"""Tells of any values whether they prove what a speaker, or a teaser, can reach in a game."""

from saidearly.errors import NotHeights
from saidearly.lossjudge import is_list_of_integers


def is_speaker_table(table, rows, num, den):
    """Tell whether rows, any value, leaves the speaker at each stand a good move with each tick."""
    if not is_list_of_integers(rows, len(table.stands())):
        return False
    return all([row >= max(_best_worths(table, rows, num, den, stand)) for stand, row in enumerate(rows)])


def is_teaser_table(table, rows, num, den):
    """Tell whether rows, any value, leaves the teaser at each stand a tick with which no move is good."""
    if not is_list_of_integers(rows, len(table.stands())):
        return False
    return all([row <= max(_best_worths(table, rows, num, den, stand)) for stand, row in enumerate(rows)])


def speaker_bound(table, rows, num, den):
    """Return what den * loss - num * ticks is at most for a speaker that moves by a speaker table."""
    if not is_speaker_table(table, rows, num, den):
        raise NotHeights()
    return max(_ends(table, rows, den))


def teaser_bound(table, rows, num, den):
    """Return what den * loss - num * ticks is at least for a teaser that goes by a teaser table."""
    if not is_teaser_table(table, rows, num, den):
        raise NotHeights()
    return min(_ends(table, rows, den))


def _best_worths(table, rows, num, den, stand):
    """Return for each tick of a stand the least den * gain - num + height of the target of a move."""
    return [min([den * gain - num + rows[target] for _, gain, target in table.moves(stand, tick)])
            for tick in table.ticks(stand)]


def _ends(table, rows, den):
    """Return for each stand what den * loss - num * ticks comes to if the texts end there."""
    return [rows[0] - row + den * table.closing(stand) for stand, row in enumerate(rows)]
