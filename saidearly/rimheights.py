"""The heights of the rim of two texts of equal length, under a lag, as they come tick by tick.

Heights are the D of the rim points, in their order, less the D of the corner. Points are told here by how far they
are from the corner: (-1, 0) lacks the last left letter.
"""


def heights_behind(heights, left, right, tick, pair, lag):
    """Return the heights behind a tick, and how much the D of the corner grows by it.

    left and right are the texts ahead of the tick, or so many last letters of each as the lag at least; they and
    the tick may as well be numbers of a pattern.
    """
    worths = {point: worth for point, worth in zip(_rim_points(len(heights) // 2), heights)}
    reach = min(lag, len(heights) // 2 + 1)
    lefts = left + tick[:1]
    rights = right + tick[1:]
    # Less than a reach from the new corner, the points of its rim come in an order in which each can be worked out.
    for i in range(1 - reach, 1):
        worths[(i, 1)] = _worth_of(worths, lefts, rights, pair, (i, 1))
    for j in range(1 - reach, 1):
        worths[(1, j)] = _worth_of(worths, lefts, rights, pair, (1, j))
    growth = _worth_of(worths, lefts, rights, pair, (1, 1))
    worths[(1, 1)] = growth
    return tuple([worths[(i + 1, j + 1)] - growth for i, j in _rim_points(reach)]), growth


def _rim_points(reach):
    """Return the points of the rim up to so far from the corner, in their order."""
    return [(i, 0) for i in range(-reach, 1)] + [(0, j) for j in range(-1, -reach - 1, -1)]


def _worth_of(worths, lefts, rights, pair, point):
    """Return the D of a point by those of the points ahead of it; the last letters lead to 1."""
    i, j = point
    ways = []
    if (i - 1, j) in worths:
        ways.append(worths[(i - 1, j)] + pair[0])
    if (i, j - 1) in worths:
        ways.append(worths[(i, j - 1)] + pair[1])
    if (i - 1, j - 1) in worths and lefts[i - 2] == rights[j - 2]:
        ways.append(worths[(i - 1, j - 1)])
    return min(ways)
