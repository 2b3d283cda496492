import itertools
import unittest

from helpers import NONE, PLAIN, PROMISES, UNEVEN, random_prices, random_text, rng, slow_least
from saidearly.errors import Broken, NotComparable
from saidearly.letters import is_going_on
from saidearly.prices import Prices
from saidearly.standings import Standing, echo, price_behind
from saidearly.tips import alike, form, parting, tips
from test_standings import made, random_standing

SIDES = ("left", "right")


def slow_tips(standing):
    """The tips by the words of [32]."""
    left, right, prices = standing.head("left"), standing.head("right"), standing.prices()
    n, m = len(left), len(right)
    worths = dict(standing.rim())
    found = []
    for (i, j), worth in standing.rim():
        costs = {}
        if j == m:
            if i > 0:
                costs[i - 1, m] = prices.drop(left[i - 1])
            if i < n:
                costs[i + 1, m] = prices.put(left[i])
        if i == n:
            if j > 0:
                costs[n, j - 1] = prices.put(right[j - 1])
            if j < m:
                costs[n, j + 1] = prices.drop(right[j])
        if not any(spot in worths and worths[spot] + cost == worth for spot, cost in costs.items()):
            if i < n:
                found.append(("left", left[i:], worth))
            elif j < m:
                found.append(("right", right[j:], worth))
            else:
                found.append(("corner", (), worth))
    return found


def going_ons(standing, longest, letters):
    """All going-ons of some letters a side, on the open sides only."""
    texts = [text for many in range(longest + 1) for text in itertools.product(letters, repeat=many)]
    return [(a, b) for a in (texts if standing.is_open("left") else [()])
            for b in (texts if standing.is_open("right") else [()])]


class Tips(unittest.TestCase):
    """[32]"""

    def test_several_tips(self):
        self.assertEqual(tips(Standing(PLAIN, NONE)), [("corner", (), 0)])
        self.assertEqual(tips(made((1,), (2,))), [("left", (1,), 1), ("right", (2,), 1)])
        self.assertEqual(tips(made((1, 2), (3, 1, 4))), [("left", (2,), 2), ("right", (4,), 2), ("right", (3, 1, 4), 2)])

    def test_one_tip(self):
        self.assertEqual(tips(made((1, 2), (1, 2))), [("corner", (), 0)])
        self.assertEqual(tips(made((1, 2, 3), (1,))), [("left", (2, 3), 0)])
        self.assertEqual(tips(made((1,), (1, 2, 3))), [("right", (2, 3), 0)])
        self.assertEqual(tips(made((), (5, 6), UNEVEN)), [("right", (5, 6), 0)])

    def test_both_heads_unlike(self):
        # Dropping 0 costs 2 and putting it 3; dropping 1 costs 9 and putting it 1.
        standing = made((0,), (1,), UNEVEN)
        self.assertEqual(standing.rim(), [((0, 1), 1), ((1, 1), 3), ((1, 0), 2)])
        self.assertEqual(tips(standing), [("left", (0,), 1), ("right", (1,), 2)])

    def test_closed_sides(self):
        standing = made((1, 2), (3,), closed=("left",))
        self.assertEqual(tips(standing), [("left", (1, 2), 1)])
        standing = made((1, 2), (3,), closed=("right",))
        self.assertEqual(tips(standing), [("right", (3,), 2)])
        standing = made((1, 2), (3,), closed=("right", "left"))
        self.assertEqual(tips(standing), [("corner", (), 3)])

    def test_each_way_of_leading(self):
        """Each of the four costs, at prices that tell them apart."""
        prices = Prices({1: (2, 5), 2: (3, 7)})
        standing = made((1,), (), prices)
        self.assertEqual(standing.rim(), [((0, 0), 0), ((1, 0), 2)])
        self.assertEqual(tips(standing), [("left", (1,), 0)])
        standing = made((), (2,), prices)
        self.assertEqual(standing.rim(), [((0, 1), 7), ((0, 0), 0)])
        self.assertEqual(tips(standing), [("right", (2,), 0)])
        standing = made((1,), (1,), prices)
        self.assertEqual(standing.rim(), [((0, 1), 5), ((1, 1), 0), ((1, 0), 2)])
        self.assertEqual(tips(standing), [("corner", (), 0)])

    def test_neighbours_beyond_the_lag_lead_nowhere(self):
        standing = made((1, 2, 3), (), PLAIN, ("lag", 1))
        self.assertEqual(standing.rim(), [((0, 0), 0), ((1, 0), 1)])
        self.assertEqual(tips(standing), [("left", (1, 2, 3), 0)])
        standing = made((1, 2, 3, 4), (9, 9), PLAIN, ("lag", 1))
        self.assertEqual(standing.rim(), [((1, 2), 3), ((2, 2), 4), ((3, 2), 5)])
        self.assertEqual(tips(standing), [("left", (2, 3, 4), 3)])

    def test_against_the_words(self):
        chance = rng(320)
        for _ in range(400):
            standing = random_standing(chance, 5)
            if standing is not None:
                found = tips(standing)
                self.assertEqual(found, slow_tips(standing))
                self.assertTrue(found)
                self.assertEqual(min(tip[2] for tip in found), min(worth for _, worth in standing.rim()))

    def test_tips_tell_all(self):
        """The least behind a going-on is reached by way of a tip."""
        chance = rng(321)
        for _ in range(60):
            standing = random_standing(chance, 4, NONE)
            prices = standing.prices()
            for _ in range(10):
                a, b = [random_text(chance, 4) if standing.is_open(side) else () for side in SIDES]
                ways = [worth + slow_least((rest if side == "left" else ()) + a, (rest if side == "right" else ()) + b,
                                           prices, NONE) for side, rest, worth in tips(standing)]
                self.assertEqual(price_behind(standing, (a, b)), min(ways))

    def test_what_is_returned_is_new(self):
        standing = made((1,), (2,))
        tips(standing).clear()
        self.assertEqual(len(tips(standing)), 2)


class Forms(unittest.TestCase):
    """[33]"""

    def test_sides(self):
        standing = made((1,), (2,))
        self.assertEqual(form(standing), (SIDES, 0, (("left", (1,), 1), ("right", (2,), 1))))
        standing.close("left")
        self.assertEqual(form(standing), (("right",), 0, (("left", (1,), 1),)))
        standing.close("right")
        self.assertEqual(form(standing), ((), 0, (("corner", (), 2),)))
        standing = made((1,), (2,), closed=("right",))
        self.assertEqual(form(standing), (("left",), 0, (("right", (2,), 1),)))

    def test_offset(self):
        for promise in PROMISES:
            for left, right in [((1, 1), (1,)), ((1,), (1, 1)), ((1, 1), (1, 1))]:
                for closed in [(), ("left",), ("right",), SIDES]:
                    try:
                        standing = made(left, right, PLAIN, promise, closed)
                    except Broken:
                        self.assertEqual(promise, ("total", 0))
                        continue
                    wanted = len(right) - len(left) if promise[0] == "lag" and closed != SIDES else 0
                    self.assertEqual(form(standing)[1], wanted)
                    self.assertIsInstance(form(standing)[2], tuple)

    def test_alike_through_different_heads(self):
        for closed in [(), ("left",), ("right",), SIDES]:
            for promise in (NONE, ("lag", 2), ("total", 5)):
                one = made((), (), UNEVEN, promise, closed)
                other = made((1, 2, 0), (1, 2, 0), UNEVEN, promise, closed)
                self.assertIs(alike(one, other), True)
                self.assertIsNone(parting(one, other))
        one = made((7, 1, 2), (7,))
        other = made((1, 2), ())
        self.assertIs(alike(one, other), True)
        self.assertIsNone(parting(one, other))

    def test_unlike_ones(self):
        one = made((1,), ())
        other = made((2,), ())
        self.assertIs(alike(one, other), False)
        self.check_parting(one, other)
        one = made((1,), (2,), closed=SIDES)
        other = made((), (), closed=SIDES)
        self.assertIs(alike(one, other), False)
        self.assertEqual(parting(one, other), ((), ()))

    def test_only_the_offset_differs(self):
        one = made((1, 2), (1,), PLAIN, ("lag", 2))
        other = made((1, 3, 2), (1,), PLAIN, ("lag", 2))
        self.assertNotEqual(form(one)[1], form(other)[1])
        self.check_parting(one, other)
        one = made((1, 2), (3,), PLAIN, ("lag", 1), ("left",))
        other = made((1, 2), (3, 1), PLAIN, ("lag", 1), ("left",))
        self.check_parting(one, other)
        found = 0
        chance = rng(330)
        for _ in range(3000):
            lag = ("lag", chance.randint(1, 4))
            closed = chance.choice([(), ("left",), ("right",)])
            try:
                one, other = [made(random_text(chance, 6, 2), random_text(chance, 6, 2), PLAIN, lag, closed)
                              for _ in range(2)]
            except Broken:
                continue
            if form(one)[1] != form(other)[1] and form(one)[2] == form(other)[2]:
                found += 1
                self.check_parting(one, other)
        self.assertGreater(found, 3)

    def check_parting(self, one, other):
        for first, second in ((one, other), (other, one)):
            going_on = parting(first, second)
            self.assertIs(is_going_on(going_on), True)
            longest = max(len(tip[1]) for standing in (one, other) for tip in tips(standing))
            self.assertLessEqual(max(len(text) for text in going_on), longest + 12)
            self.assertNotEqual(price_behind(first, going_on), price_behind(second, going_on))

    def test_parting_of_many(self):
        chance = rng(331)
        like, unlike, not_let = 0, 0, 0
        while unlike < 700:
            promise = chance.choice(PROMISES)
            prices = chance.choice([PLAIN, UNEVEN, random_prices(chance)])
            closed = chance.choice([(), (), ("left",), ("right",), SIDES])
            try:
                one, other = [made(random_text(chance, 5, 2), random_text(chance, 5, 2), prices, promise, closed)
                              for _ in range(2)]
            except Broken:
                continue
            self.assertIs(alike(one, other), form(one) == form(other))
            if not alike(one, other):
                unlike += 1
                self.check_parting(one, other)
                not_let += None in [price_behind(standing, parting(one, other)) for standing in (one, other)]
            else:
                like += 1
                self.assertIsNone(parting(one, other))
                for going_on in going_ons(one, 2, (0, 1, 2)):
                    self.assertEqual(price_behind(one, going_on), price_behind(other, going_on))
        self.assertGreater(like, 20)
        self.assertGreater(not_let, 40)

    def test_parting_of_long_heads_under_a_lag(self):
        chance = rng(332)
        for lag in range(1, 5):
            for many in [(24, 0), (0, 24), (24, 24), (20, 3), (3, 20)]:
                for others in [(24, 1), (1, 24), (23, 24), (0, 0)]:
                    heads = [tuple(chance.randrange(2) for _ in range(length)) for length in many + others]
                    self.check_parting(made(heads[0], heads[1], PLAIN, ("lag", lag)),
                                       made(heads[2], heads[3], PLAIN, ("lag", lag)))
            for closed, many, others in [("left", (24, 2), (23, 24)), ("left", (24, 24), (24, 0)),
                                         ("right", (2, 24), (24, 23)), ("right", (24, 24), (0, 24))]:
                heads = [tuple(chance.randrange(2) for _ in range(length)) for length in many + others]
                self.check_parting(made(heads[0], heads[1], PLAIN, ("lag", lag), (closed,)),
                                   made(heads[2], heads[3], PLAIN, ("lag", lag), (closed,)))

    def test_not_comparable(self):
        base = made((1,), (2,))
        others = [made((1,), (2,), Prices({9: (1, 2)})), made((1,), (2,), PLAIN, ("lag", 1)),
                  made((1,), (2,), PLAIN, ("total", 9)), made((1,), (2,), closed=("left",)),
                  made((1,), (2,), closed=("right",)), made((1,), (2,), closed=SIDES)]
        for other in others:
            for function in (alike, parting):
                with self.assertRaises(NotComparable):
                    function(base, other)
                with self.assertRaises(NotComparable):
                    function(other, base)
        for one, other in [(("lag", 1), ("lag", 2)), (("total", 3), ("total", 4))]:
            for function in (alike, parting):
                with self.assertRaises(NotComparable):
                    function(made((), (), PLAIN, one), made((), (), PLAIN, other))
        self.assertIs(alike(base, made((1,), (2,), Prices({9: (1, 1)}))), True)
        with self.assertRaises(NotComparable):
            alike(made((), (), closed=("left",)), made((), (), closed=("right",)))

    def test_nothing_changes(self):
        one, other = made((1,), (2,)), made((2,), (1, 3))
        before = [(standing.head("left"), standing.head("right"), standing.rim()) for standing in (one, other)]
        first = (alike(one, other), parting(one, other), form(one))
        self.assertEqual((alike(one, other), parting(one, other), form(one)), first)
        self.assertEqual([(standing.head("left"), standing.head("right"), standing.rim())
                          for standing in (one, other)], before)


class Echo(unittest.TestCase):
    def test_a_tip_tells_its_echo(self):
        standing = made((1, 2), (3, 1, 4))
        told = [echo(standing, point) for point, _ in standing.rim()]
        for side, rest, worth in tips(standing):
            going_on = ((), rest) if side == "left" else (rest, ())
            self.assertIn(going_on, told)
            self.assertEqual(price_behind(standing, going_on), worth)


if __name__ == "__main__":
    unittest.main()
