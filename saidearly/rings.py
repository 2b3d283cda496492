"""Rings of a table: what is lost with each tick at worst, and whether losses are bounded."""

from math import gcd

from saidearly.errors import TooMany
from saidearly.walks import walk_back

MOST_STEPS = 600000


def worst_ring(table):
    """Return the greatest mean of a ring as (num, den), in lowest terms, and such a ring; None without any."""
    arrows = _checked_arrows(table)
    many = len(table.stands())
    sums, lasts = _sums_by_length(arrows, many)
    best = None
    for stand in range(many):
        mean = _mean_up_to(sums, stand)
        if mean is not None and (best is None or _is_greater(mean, best[0])):
            best = (mean, stand)
    if best is None:
        return None
    ring = _ring_in(arrows, _walk_of(arrows, lasts, best[1]))
    total = sum([arrows[number][3] for number in ring])
    common = gcd(total, len(ring))
    return total // common, len(ring) // common, ring


def is_bounded(table):
    """Tell whether no ring has a mean greater than 0."""
    return heights(table, 0, 1) is not None


def heights(table, num, den):
    """Return for each stand the greatest sum of den * gain - num of a walk to it, or None if there is no greatest."""
    found = _greatest_sums(_checked_arrows(table), len(table.stands()), num, den)
    if found is None:
        return None
    return found[0]


def greatest_loss(table):
    """Return the greatest loss of all texts, and a walk that reaches it; None if there is no greatest."""
    arrows = _checked_arrows(table)
    found = _greatest_sums(arrows, len(table.stands()), 0, 1)
    if found is None:
        return None
    sums, lasts = found
    losses = [worth + table.closing(stand) for stand, worth in enumerate(sums)]
    best = losses.index(max(losses))
    return losses[best], walk_back(arrows, lasts, best)


def _checked_arrows(table):
    """Return the arrows of a table unless there are too many of them and of the stands."""
    arrows = table.arrows()
    count = len(table.stands()) * len(arrows)
    if count > MOST_STEPS:
        raise TooMany(count)
    return arrows


def _greatest_sums(arrows, many, num, den):
    """Return by stands the greatest sums of den * gain - num of walks from stand 0, and their last arrows.

    Return None if some sum has no bound.
    """
    sums = [None] * many
    lasts = [None] * many
    sums[0] = 0
    # Without a ring that grows, greatest walks come to no stand twice, so that the last round changes nothing.
    for _ in range(many):
        is_changed = False
        for number, arrow in enumerate(arrows):
            if sums[arrow[0]] is not None:
                worth = sums[arrow[0]] + den * arrow[3] - num
                if sums[arrow[4]] is None or worth > sums[arrow[4]]:
                    sums[arrow[4]] = worth
                    lasts[arrow[4]] = number
                    is_changed = True
        if not is_changed:
            return sums, lasts
    return None


def _sums_by_length(arrows, many):
    """Return for 0 to many arrows the greatest sums of the gains of walks of so many to each stand.

    Behind these are, for 1 to many arrows, the last arrows of such walks. None stands where there is no walk.
    """
    sums = [[0] + [None] * (many - 1)]
    lasts = []
    for _ in range(many):
        before = sums[-1]
        worths = [None] * many
        numbers = [None] * many
        for number, arrow in enumerate(arrows):
            if before[arrow[0]] is not None:
                worth = before[arrow[0]] + arrow[3]
                if worths[arrow[4]] is None or worth > worths[arrow[4]]:
                    worths[arrow[4]] = worth
                    numbers[arrow[4]] = number
        sums.append(worths)
        lasts.append(numbers)
    return sums, lasts


def _mean_up_to(sums, stand):
    """Return the least mean, as (sum, length), by which the longest walks to a stand outgrow a shorter one, or None.

    The greatest mean of a ring is the greatest one of these over all stands (Karp).
    """
    many = len(sums) - 1
    if sums[many][stand] is None:
        return None
    found = None
    for length in range(many):
        if sums[length][stand] is not None:
            mean = (sums[many][stand] - sums[length][stand], many - length)
            if found is None or _is_greater(found, mean):
                found = mean
    return found


def _is_greater(one, other):
    """Tell whether one mean, as (sum, length), is greater than another one."""
    return one[0] * other[1] > other[0] * one[1]


def _walk_of(arrows, lasts, stand):
    """Return the walk of the greatest sum of all that have the greatest length and lead to a stand."""
    found = []
    for numbers in lasts[::-1]:
        found.append(numbers[stand])
        stand = arrows[numbers[stand]][0]
    return found[::-1]


def _ring_in(arrows, walk):
    """Return a ring in a walk that comes to some stand twice.

    Where the greatest mean is that of the stand to which the walk leads, so is that of each ring in it: without this
    ring the walk could not have a greater sum of what the gains are more than this mean.
    """
    places = {}
    for at, number in enumerate(walk):
        stand = arrows[number][0]
        if stand in places:
            return walk[places[stand]:at]
        places[stand] = at
    return walk[places[arrows[walk[-1]][4]]:]
