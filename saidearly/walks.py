"""Walks along the arrows of a table, and texts that take them.

An arrow is a tuple that begins with (stand, x, y) and ends with its target.
"""

from saidearly.letters import is_within
from saidearly.patterns import letters_of


def leaving(arrows, many):
    """Return for each of so many stands the ascending list of the numbers of its arrows."""
    found = [[] for _ in range(many)]
    for number, arrow in enumerate(arrows):
        found[arrow[0]].append(number)
    return found


def misstep(arrows, walk, stand):
    """Return the index of the first item of a list that does not go on with a walk from a stand, or None."""
    for at, item in enumerate(walk):
        if not is_within(item, 0, len(arrows) - 1) or arrows[item][0] != stand:
            return at
        stand = arrows[item][-1]
    return None


def shortest_walk(arrows, many, goal):
    """Return a shortest walk from stand 0 to a stand that can be reached; many is the number of stands."""
    ways = leaving(arrows, many)
    lasts = {0: None}
    found = [0]
    number = 0
    while goal not in lasts:
        stand = found[number]
        for arrow in ways[stand]:
            target = arrows[arrow][-1]
            if target not in lasts:
                lasts[target] = arrow
                found.append(target)
        number += 1
    return walk_back(arrows, lasts, goal)


def walk_back(arrows, lasts, stand):
    """Return the walk to a stand in which the last arrow to each stand is that of lasts, and none if it has None."""
    found = []
    while lasts[stand] is not None:
        found.append(lasts[stand])
        stand = arrows[lasts[stand]][0]
    return found[::-1]


def texts_along(patterns, arrows):
    """Return texts that take arrows one after the other; patterns has those of all stands by their numbers."""
    left = ()
    right = ()
    for arrow in arrows:
        left, right = texts_behind(left, right, patterns[arrow[0]], arrow[1:3])
    return left, right


def texts_behind(left, right, pattern, tick):
    """Return two texts behind a tick of the pattern of their last letters.

    All letters of the texts came so. A new one is the least that is in neither, the left one of a tick first; so
    there are no gaps below the greatest letter.
    """
    new = max((-1,) + left + right) + 1
    x, y = letters_of(left[len(left) - len(pattern[0]):], right[len(right) - len(pattern[1]):], tick, (new, new + 1))
    return left + (x,), right + (y,)
