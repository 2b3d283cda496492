"""What several tests need: slow and plain ways to the same numbers, texts, and values of all kinds."""

import functools
import itertools
import random

from saidearly.errors import EarlyError, Wrong
from saidearly.lanes import Lane
from saidearly.prices import Prices

NONE = ("none",)
PLAIN = Prices({})
UNEVEN = Prices({0: (2, 3), 1: (9, 1), 2: (1, 4)})
PROMISES = [NONE, ("lag", 1), ("lag", 2), ("lag", 3), ("lag", 4), ("total", 0), ("total", 3), ("total", 60)]


def rng(seed):
    return random.Random(seed)


def random_text(chance, longest, letters=3):
    return tuple(chance.randrange(letters) for _ in range(chance.randint(0, longest)))


def random_prices(chance, letters=3):
    return Prices({letter: (chance.randint(1, 9), chance.randint(1, 9)) for letter in range(letters)
                   if chance.random() < 0.7})


def texts_up_to(longest, letters):
    """All texts of at most so many letters, of so many different ones."""
    return [text for many in range(longest + 1) for text in itertools.product(range(letters), repeat=many)]


def all_scripts(left, right):
    """All scripts that fit two texts, in the order k, d, p."""
    if not left and not right:
        return [""]
    found = []
    if left and right and left[0] == right[0]:
        found += ["k" + rest for rest in all_scripts(left[1:], right[1:])]
    if left:
        found += ["d" + rest for rest in all_scripts(left[1:], right)]
    if right:
        found += ["p" + rest for rest in all_scripts(left, right[1:])]
    return found


def slow_points(script):
    """The points of a script, by counting."""
    starts = [script[:many] for many in range(len(script) + 1)]
    return [(start.count("k") + start.count("d"), start.count("k") + start.count("p")) for start in starts]


def slow_allowed(script, promise):
    return promise[0] != "lag" or all(abs(i - j) <= promise[1] for i, j in slow_points(script))


def slow_price(script, left, right, prices):
    total = 0
    for step, (i, j) in zip(script, slow_points(script)):
        total += {"k": 0, "d": 0 if i >= len(left) else prices.drop(left[i]),
                  "p": 0 if j >= len(right) else prices.put(right[j])}[step]
    return total


def slow_least(left, right, prices, promise):
    """The least, letter by letter from the ends of the texts."""
    lag = promise[1] if promise[0] == "lag" else 10 ** 6

    @functools.lru_cache(maxsize=None)
    def up_to(i, j):
        if abs(i - j) > lag:
            return 10 ** 9
        if i == 0 and j == 0:
            return 0
        ways = []
        if i:
            ways.append(up_to(i - 1, j) + prices.drop(left[i - 1]))
        if j:
            ways.append(up_to(i, j - 1) + prices.put(right[j - 1]))
        if i and j and left[i - 1] == right[j - 1]:
            ways.append(up_to(i - 1, j - 1))
        return min(ways)

    worth = up_to(len(left), len(right))
    return None if worth >= 10 ** 8 else worth


def slow_behind(standing, going_on):
    """The least behind a going-on, or None if it is not let."""
    left = standing.head("left") + going_on[0]
    right = standing.head("right") + going_on[1]
    promise = standing.promised()
    worth = slow_least(left, right, standing.prices(), promise)
    if worth is None or (promise[0] == "total" and worth > promise[1]):
        return None
    return worth


def random_saying(chance, n, m, depth=2, denied=False):
    """Some saying about heads of n and m letters, not both empty; its "begins" may leave them."""
    kind = chance.randint(0, 5 if depth else 2)
    if kind == 3:
        return ("not", random_saying(chance, n, m, depth - 1, True))
    if kind > 3:
        return (("and", "or")[kind - 4], random_saying(chance, n, m, depth - 1, denied),
                random_saying(chance, n, m, depth - 1, denied))
    if kind == 0 and not denied:
        return ("begins", "".join(chance.choice("kkdp") for _ in range(chance.randint(0, 3))))
    if kind == 1 and n and m:
        return ("kept", chance.randrange(n), chance.randrange(m))
    side = "left" if n and (not m or chance.random() < 0.5) else "right"
    return ("alone", side, chance.randrange(n if side == "left" else m))


def odd_values():
    """Values of all kinds that [4] names; hardly any of them is as a point describes."""
    deep = ()
    for _ in range(29):
        deep = (deep,)
    deeper = []
    for number in range(29):
        deeper = [deeper, number]
    return [None, True, False, 0, 1, -1, 10 ** 9, 10 ** 9 + 1, 10 ** 39, -10 ** 39, "", "k", "left", "none", "lag",
            "a b\n~", "0", [], [0], [[0]], ["none"], (), (0,), (True,), (None,), ((),), ((), ()), ([], ()), ((), []),
            ("none",), ("lag",), ("lag", 0), ("lag", True), ("total", False), (0, 0), (0, True), (-1, 0), {}, {0: 0},
            {0: (1, 1)}, {"a": ()}, {(): None}, {None: [1]}, Lane(), Prices({}), Prices({1: (2, 3)}), Wrong(0),
            EarlyError("x"), (Lane(), Prices({})), [Lane()], deep, deeper, tuple(range(2999)), list(range(2999)),
            "k" * 3000]


class Graph:
    """A table of a few arrows (stand, gain, target), for what asks for no more of a table."""

    def __init__(self, many, arrows, closings=None):
        self.many = many
        self.told = [(stand, 0, 0, gain, target) for stand, gain, target in arrows]
        self.closings = closings or [0] * many

    def stands(self):
        return [(0, 0, (0, 0), ((), ()), (0,)) for _ in range(self.many)]

    def arrows(self):
        return list(self.told)

    def closing(self, stand):
        return self.closings[stand]


def random_graph(chance, most=6, extra=6, reach=5):
    """Some graph all of whose stands can be reached from stand 0."""
    many = chance.randint(1, most)
    arrows = [(chance.randrange(at), chance.randint(-reach, reach), at) for at in range(1, many)]
    arrows += [(chance.randrange(many), chance.randint(-reach, reach), chance.randrange(many))
               for _ in range(chance.randint(0, extra))]
    return Graph(many, sorted(arrows), [chance.randint(-3, 6) for _ in range(many)])


def slow_rings(table):
    """All rings of a small table, each from each of its stands."""
    arrows = table.arrows()
    found = []

    def go_on(walk, start, seen):
        at = arrows[walk[-1]][4] if walk else start
        if walk and at == start:
            found.append(walk)
            return
        if at in seen:
            return
        for number, arrow in enumerate(arrows):
            if arrow[0] == at:
                go_on(walk + [number], start, seen | {at})

    for start in range(len(table.stands())):
        go_on([], start, set())
    return found


def walk_gain(table, walk):
    return sum(table.arrows()[number][3] for number in walk)


def is_walk(table, walk, start=None):
    """Whether a list of numbers of arrows is a walk, perhaps from a stand."""
    arrows = [table.arrows()[number] for number in walk]
    joined = all(one[4] == other[0] for one, other in zip(arrows, arrows[1:]))
    return joined and (start is None or not arrows or arrows[0][0] == start)
