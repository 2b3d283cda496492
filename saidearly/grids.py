"""Least prices of two texts, of all their beginnings and of all their rests."""

from saidearly.scripts import can_step


def grid(left, right, prices, promise):
    """Return the least of each two beginnings of the texts, or None where there is none."""
    width = _width(left, right, promise)
    return _filled(left, right, prices, -width, width)


def rests(left, right, prices, promise):
    """Return the smallest price of steps from each point to the end of both texts, or None."""
    width = _width(left, right, promise)
    # Read backwards, the texts have their rests as beginnings, and the band does not begin in its middle.
    shift = len(left) - len(right)
    rows = _filled(left[::-1], right[::-1], prices, shift - width, shift + width)
    return [row[::-1] for row in rows[::-1]]


def least(left, right, prices, promise):
    """Return the least of two texts, or None."""
    return grid(left, right, prices, promise)[-1][-1]


def least_script(left, right, prices, promise):
    """Return the first of the cheapest allowed scripts, or None."""
    return script_from(left, right, prices, promise, (0, 0))


def script_from(left, right, prices, promise, start):
    """Return the first of the cheapest allowed steps from a point to the end of both texts, or None."""
    rows = rests(left, right, prices, promise)
    if rows[start[0]][start[1]] is None:
        return None
    script = []
    point = start
    while point != (len(left), len(right)):
        step, point = _first_cheapest(steps_from(left, right, prices, point), rows, point)
        script.append(step)
    return "".join(script)


def led_from(left, right, prices, promise, start):
    """Return the smallest price of allowed steps from a point to each point to which such steps lead."""
    i, j = start
    width = _width(left, right, promise)
    rows = _filled(left[i:], right[j:], prices, j - i - width, j - i + width)
    return {(i + a, j + b): entry for a, row in enumerate(rows) for b, entry in enumerate(row) if entry is not None}


def least_many(left, right, prices, promise):
    """Return how many allowed scripts have the least as their price."""
    rows = grid(left, right, prices, promise)
    counts = [[0] * len(row) for row in rows]
    counts[0][0] = 1
    for i, row in enumerate(rows):
        for j, entry in enumerate(row):
            if entry is not None:
                for _, (x, y), cost in steps_from(left, right, prices, (i, j)):
                    if rows[x][y] == entry + cost:
                        counts[x][y] += counts[i][j]
    return counts[-1][-1]


def steps_from(left, right, prices, point):
    """Return the tuples (step, point behind it, its price) that can be done, in the order k, d, p."""
    i, j = point
    found = []
    if can_step("k", left, right, point):
        found.append(("k", (i + 1, j + 1), 0))
    if can_step("d", left, right, point):
        found.append(("d", (i + 1, j), prices.drop(left[i])))
    if can_step("p", left, right, point):
        found.append(("p", (i, j + 1), prices.put(right[j])))
    return found


def _width(left, right, promise):
    """Return how far the two integers of a point may differ; without a lag no point goes beyond."""
    if promise[0] == "lag":
        return promise[1]
    return len(left) + len(right)


def _filled(left, right, prices, low, high):
    """Return the least prices up to each point (i, j) with low <= i - j <= high, by points of this band only."""
    drops = [prices.drop(letter) for letter in left]
    puts = [prices.put(letter) for letter in right]
    rows = [[None] * (len(right) + 1) for _ in range(len(left) + 1)]
    for i in range(len(left) + 1):
        for j in range(max(0, i - high), min(len(right), i - low) + 1):
            ways = []
            if i == 0 and j == 0:
                ways.append(0)
            if i > 0 and rows[i - 1][j] is not None:
                ways.append(rows[i - 1][j] + drops[i - 1])
            if j > 0 and rows[i][j - 1] is not None:
                ways.append(rows[i][j - 1] + puts[j - 1])
            if i > 0 and j > 0 and left[i - 1] == right[j - 1] and rows[i - 1][j - 1] is not None:
                ways.append(rows[i - 1][j - 1])
            if ways:
                rows[i][j] = min(ways)
    return rows


def _first_cheapest(steps, rows, point):
    """Return the first step, with the point behind it, that loses nothing by the rests in rows."""
    i, j = point
    fair = [(step, (x, y)) for step, (x, y), cost in steps
            if rows[x][y] is not None and rows[x][y] + cost == rows[i][j]]
    return fair[0]
