"""The cheapest ways through two heads, told apart by which atoms of a saying they hold."""

from saidearly.grids import grid, rests, steps_from
from saidearly.sayings import atoms, is_held_by
from saidearly.scripts import first_undone, points
from saidearly.standings import grown_texts


def ways_out(standing, saying):
    """Return the ways through the heads to each point at which a script can leave them.

    They are in a dict from the points to lists of tuples (whether the saying is held, price, script), in which the
    steps behind the heads are taken not to lead on within them. No atom but a "begins" depends on that, and one
    that does so wrongly counts as not held; so what counts as held surely is.
    """
    left = standing.head("left")
    right = standing.head("right")
    named = atoms(saying)
    paths = [_path_of(atom) for atom in named]
    found = {}
    for point, ways in _cells(standing, named, paths).items():
        if point[0] == len(left) or point[1] == len(right):
            found[point] = [(_is_held_at(point, saying, named, paths, truths), worth, script)
                            for truths, (worth, script) in ways.items()]
    return found


def cheapest_out(standing, saying):
    """Return the smallest price of the ways that hold a saying, by the points at which a script leaves the heads."""
    found = {}
    for point, ways in ways_out(standing, saying).items():
        worths = [worth for is_held, worth, _ in ways if is_held]
        if worths:
            found[point] = min(worths)
    return found


def cheapest_behind(standing, cheapest, going_on):
    """Return the smallest price of the scripts of texts grown by a going-on that leave the heads so, or None."""
    left, right = grown_texts(standing, going_on)
    rows = rests(left, right, standing.prices(), standing.promised())
    worths = [worth + rows[i][j] for (i, j), worth in cheapest.items() if rows[i][j] is not None]
    if not worths:
        return None
    return min(worths)


def _path_of(atom):
    """Return the steps of a "begins" by the points from which they go."""
    if atom[0] != "begins":
        return {}
    return {point: step for step, point in zip(atom[1], points(atom[1]))}


def _cells(standing, named, paths):
    """Return for each point of the heads the cheapest ways (price, script) to it, by the truths of the atoms."""
    left = standing.head("left")
    right = standing.head("right")
    prices = standing.prices()
    rows = grid(left, right, prices, standing.promised())
    cells = {(i, j): {} for i, row in enumerate(rows) for j, entry in enumerate(row) if entry is not None}
    cells[(0, 0)][tuple([_truth_first(atom, left, right) for atom in named])] = (0, "")
    for point in list(cells):
        for step, target, cost in steps_from(left, right, prices, point):
            # Points beyond a lag have no cell.
            if target in cells:
                for truths, (worth, script) in list(cells[point].items()):
                    after = _truths_after(named, paths, truths, step, point)
                    _arrive(cells[target], after, worth + cost, script + step)
    return cells


def _arrive(ways, truths, worth, script):
    """Keep a way to a point if none so cheap is known."""
    if truths not in ways or worth < ways[truths][0]:
        ways[truths] = (worth, script)


def _truth_first(atom, left, right):
    """Tell whether an atom holds of no steps, or may still hold if it tells the steps to come."""
    if atom[0] == "begins":
        return first_undone(atom[1], left, right) is None
    return atom[0] == "alone"


def _truths_after(named, paths, truths, step, point):
    return tuple([_truth_after(atom, path, truth, step, point) for atom, path, truth in zip(named, paths, truths)])


def _truth_after(atom, path, truth, step, point):
    """Tell whether an atom still holds, or does now, behind a step from a point within the heads."""
    if atom[0] == "begins":
        return truth and path.get(point, step) == step
    if step != "k":
        return truth
    if atom[0] == "kept":
        return truth or point == (atom[1], atom[2])
    if atom[1] == "left":
        return truth and point[0] != atom[2]
    return truth and point[1] != atom[2]


def _is_held_at(point, saying, named, paths, truths):
    """Tell whether a saying is held by a way that leaves the heads at a point; no steps of a "begins" may lack."""
    return is_held_by(saying, {atom: truth and point not in path
                               for atom, path, truth in zip(named, paths, truths)})
