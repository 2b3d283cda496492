"""Scripts of kept, dropped and put letters, and the points through which they go."""

from saidearly.errors import NotAScript

TURNED = {"k": "k", "d": "p", "p": "d"}


def points(script):
    """Return the points of a script, one more than it has steps."""
    i = 0
    j = 0
    found = [(i, j)]
    for step in script:
        if step != "p":
            i += 1
        if step != "d":
            j += 1
        found.append((i, j))
    return found


def kept(script):
    """Return the pairs of the indexes of the letters that a script keeps."""
    return [point for step, point in zip(script, points(script)) if step == "k"]


def widest(script):
    """Return the greatest difference of the two integers of a point of a script."""
    return max([abs(i - j) for i, j in points(script)])


def is_allowed(script, promise):
    """Tell whether a script is allowed; only a lag forbids any."""
    return promise[0] != "lag" or widest(script) <= promise[1]


def turned(script):
    """Return the script of the way back."""
    return "".join([TURNED[step] for step in script])


def fits(script, left, right):
    """Tell whether a script leads from a left text to a right one."""
    return misfit(script, left, right) is None


def price(script, left, right, prices):
    """Return the price of a script that fits two texts."""
    index = misfit(script, left, right)
    if index is not None:
        raise NotAScript(index)
    total = 0
    for step, (i, j) in zip(script, points(script)):
        if step == "d":
            total += prices.drop(left[i])
        if step == "p":
            total += prices.put(right[j])
    return total


def misfit(script, left, right):
    """Return the index at which a script fails to fit two texts, or None if it fits."""
    index = first_undone(script, left, right)
    if index is None and points(script)[-1] != (len(left), len(right)):
        return len(script)
    return index


def first_undone(script, left, right):
    """Return the index of the first step that cannot be done, or None if all can."""
    spots = points(script)
    for index, step in enumerate(script):
        if not can_step(step, left, right, spots[index]):
            return index
    return None


def can_step(step, left, right, point):
    """Tell whether a step can be done from a point of two texts."""
    i, j = point
    if step == "d":
        return i < len(left)
    if step == "p":
        return j < len(right)
    return i < len(left) and j < len(right) and left[i] == right[j]
