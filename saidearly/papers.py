"""Papers prove that a script is a cheapest one: bounds of the prices up to each point."""

from saidearly.grids import grid, rests, steps_from
from saidearly.letters import is_integer, is_script
from saidearly.scripts import fits, is_allowed, price


def heights(left, right, prices, promise):
    """Return the least bound that ends with the least of the texts, or None if they have none."""
    rows = rests(left, right, prices, promise)
    whole = rows[0][0]
    if whole is None:
        return None
    return [[None if entry is None else whole - entry for entry in row] for row in rows]


def is_bound(left, right, prices, promise, rows):
    """Tell whether rows, any value, is a bound of two texts."""
    if not _has_places_of(grid(left, right, prices, promise), rows):
        return False
    return rows[0][0] == 0 and not _climbs(left, right, prices, rows)


def is_least(left, right, prices, promise, script, rows):
    """Tell whether rows, any value, shows that script, any value, is a cheapest one."""
    if not is_script(script) or not is_allowed(script, promise) or not fits(script, left, right):
        return False
    if not is_bound(left, right, prices, promise, rows):
        return False
    return rows[-1][-1] == price(script, left, right, prices)


def _has_places_of(pattern, rows):
    """Tell whether rows has lists as pattern has, with None where it has None, and integers elsewhere."""
    if not isinstance(rows, list) or len(rows) != len(pattern):
        return False
    return all([_is_row_like(like, row) for like, row in zip(pattern, rows)])


def _is_row_like(like, row):
    if not isinstance(row, list) or len(row) != len(like):
        return False
    return all([entry is None if old is None else is_integer(entry) for old, entry in zip(like, row)])


def _climbs(left, right, prices, rows):
    """Tell whether some step leads to an entry greater than the one from which it goes plus its price."""
    for i, row in enumerate(rows):
        for j, entry in enumerate(row):
            if entry is not None:
                for _, (x, y), cost in steps_from(left, right, prices, (i, j)):
                    if rows[x][y] is not None and rows[x][y] > entry + cost:
                        return True
    return False
