"""The heights of the rim of two texts of equal length, under a lag, as they come tick by tick.

Heights are the D of the rim points, in their order, less the D of the corner. Points are told here by how far they
are from the corner: (-1, 0) lacks the last left letter.
"""


def heights_behind(heights, left, right, tick, pair, lag):
    """Return the heights behind a tick, and how much the D of the corner grows by it.

    left and right are the texts ahead of the tick, or so many last letters of each as the lag at least; they and
    the tick may as well be numbers of a pattern.
    """
    worths = {point: worth for point, worth in zip(_rim_points(len(heights) // 2), heights)}
    reach = min(lag, len(heights) // 2 + 1)
    lefts = left + tick[:1]
    rights = right + tick[1:]
    for point in _new_points(reach):
        worths[point] = min([worth for worth, _ in _ways_to(worths, lefts, rights, pair, point)])
    growth = worths[(1, 1)]
    return tuple([worths[(i + 1, j + 1)] - growth for i, j in _rim_points(reach)]), growth


def lots_behind(heights, left, right, tick, pair, lag):
    """Return what leads to the rim behind a tick: for the points of the rim ahead of it, then for those of its own.

    For each of these it is the ascending tuple of the indexes of the points of the rim behind the tick up to which a
    cheapest script passes through it; for those ahead such a script comes to no other one of them later. The
    arguments are those of heights_behind.
    """
    ahead, growth = heights_behind(heights, left, right, tick, pair, lag)
    old = _rim_points(len(heights) // 2)
    new = [(i + 1, j + 1) for i, j in _rim_points(len(ahead) // 2)]
    worths = {point: worth for point, worth in zip(old, heights)}
    for point, worth in zip(new, ahead):
        worths[point] = worth + growth
    passed = {point: [point] for point in old}
    for point in _new_points(len(ahead) // 2):
        through = {point: True}
        for worth, begin in _ways_to(worths, left + tick[:1], right + tick[1:], pair, point):
            if worth == worths[point]:
                for other in passed[begin]:
                    through[other] = True
        passed[point] = list(through)
    return [[tuple([k for k, end in enumerate(new) if point in passed[end]]) for point in rim] for rim in (old, new)]


def _rim_points(reach):
    """Return the points of the rim up to so far from the corner, in their order."""
    return [(i, 0) for i in range(-reach, 1)] + [(0, j) for j in range(-1, -reach - 1, -1)]


def _new_points(reach):
    """Return the points of the rim behind a tick, up to so far from its corner, each behind those that lead to it."""
    return [(i, 1) for i in range(1 - reach, 1)] + [(1, j) for j in range(1 - reach, 1)] + [(1, 1)]


def _ways_to(worths, lefts, rights, pair, point):
    """Return the tuples (price, point ahead) of the ways to a point; the last letters lead to 1."""
    i, j = point
    ways = []
    if (i - 1, j) in worths:
        ways.append((worths[(i - 1, j)] + pair[0], (i - 1, j)))
    if (i, j - 1) in worths:
        ways.append((worths[(i, j - 1)] + pair[1], (i, j - 1)))
    if (i - 1, j - 1) in worths and lefts[i - 2] == rights[j - 2]:
        ways.append((worths[(i - 1, j - 1)], (i - 1, j - 1)))
    return ways
