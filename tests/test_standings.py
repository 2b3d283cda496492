import itertools
import unittest

from helpers import (NONE, PLAIN, PROMISES, UNEVEN, odd_values, random_prices, random_text, rng, slow_behind,
                     slow_least, texts_up_to)
from saidearly.errors import Broken, EarlyError, Ended, NotOnRim, Wrong
from saidearly.lanes import Lane
from saidearly.prices import Prices
from saidearly.standings import Standing, echo, price_behind


def made(left, right, prices=PLAIN, promise=NONE, closed=()):
    """A standing with these heads; letters come one by one, as a lag asks for."""
    standing = Standing(prices, promise)
    standing.grow("left", left)
    standing.grow("right", right)
    for side in closed:
        standing.close(side)
    return standing


def state(standing):
    return ([standing.head(side) for side in ("left", "right")],
            [standing.is_open(side) for side in ("left", "right")],
            standing.prices(), standing.promised(), standing.least(), standing.rim())


def slow_rim(standing):
    """The rim by the words of [5]."""
    left, right = standing.head("left"), standing.head("right")
    n, m = len(left), len(right)
    spots = []
    if standing.is_open("right"):
        spots += [(i, m) for i in range(n + 1)]
    if standing.is_open("left"):
        spots += [(n, j) for j in range(m, -1, -1) if (n, j) not in spots]
    if not spots:
        spots = [(n, m)]
    promise = standing.promised()
    found = []
    for i, j in spots:
        worth = slow_least(left[:i], right[:j], standing.prices(), promise)
        if worth is not None and not (promise[0] == "total" and worth > promise[1]):
            found.append(((i, j), worth))
    return found


def random_standing(chance, longest=4, promise=None):
    """Some standing, or None if what was drawn breaks its promise."""
    promise = promise or chance.choice(PROMISES)
    try:
        return made(random_text(chance, longest), random_text(chance, longest), random_prices(chance), promise,
                    chance.choice([(), (), ("left",), ("right",), ("left", "right")]))
    except Broken:
        return None


class Making(unittest.TestCase):
    """[30], [R]"""

    def test_a_new_standing(self):
        for promise in PROMISES:
            standing = Standing(UNEVEN, promise)
            self.assertEqual(state(standing), ([(), ()], [True, True], UNEVEN, promise, 0, [((0, 0), 0)]))
            self.assertIs(standing.is_open("left"), True)

    def test_wrong_arguments(self):
        for thing in odd_values():
            if not isinstance(thing, Prices):
                for promise in (NONE, None, thing):
                    with self.assertRaises(Wrong) as caught:
                        Standing(thing, promise)
                    self.assertEqual(caught.exception.place, 0)
            if thing != ("none",):
                with self.assertRaises(Wrong) as caught:
                    Standing(PLAIN, thing)
                self.assertEqual(caught.exception.place, 1)
        for thing in [("lag", 0), ("lag", 5), ("total", 61), ("total", -1), ("none", 0), ["none"], ("lag", True)]:
            with self.assertRaises(Wrong) as caught:
                Standing(PLAIN, thing)
            self.assertEqual(caught.exception.place, 1)

    def test_prices_are_equal_and_new(self):
        prices = Prices({1: (2, 3)})
        standing = Standing(prices, NONE)
        self.assertEqual(standing.prices(), prices)
        self.assertIsInstance(standing.prices(), Prices)
        self.assertIsNot(standing.prices(), prices)
        self.assertIsNot(standing.prices(), standing.prices())


class Growing(unittest.TestCase):
    """[30]"""

    def refused(self, standing, kind, call, *fields):
        before = state(standing)
        with self.assertRaises(EarlyError) as caught:
            call()
        self.assertIs(caught.exception.__class__, kind)
        self.assertEqual(list(vars(caught.exception).values()), list(fields))
        self.assertEqual(state(standing), before)

    def test_grow(self):
        standing = Standing(PLAIN, NONE)
        self.assertIsNone(standing.grow("left", (1, 2)))
        self.assertIsNone(standing.grow("right", (3,)))
        self.assertIsNone(standing.grow("left", (4,)))
        self.assertIsNone(standing.grow("left", ()))
        self.assertEqual(standing.head("left"), (1, 2, 4))
        self.assertEqual(standing.head("right"), (3,))
        self.assertEqual(standing.least(), 4)

    def test_close(self):
        standing = Standing(PLAIN, NONE)
        self.assertIsNone(standing.close("right"))
        self.assertIs(standing.is_open("right"), False)
        self.assertIs(standing.is_open("left"), True)
        self.refused(standing, Ended, lambda: standing.close("right"), "right")
        self.refused(standing, Ended, lambda: standing.grow("right", (1,)), "right")
        self.refused(standing, Ended, lambda: standing.grow("right", ()), "right")
        standing.grow("left", (5,))
        standing.close("left")
        self.refused(standing, Ended, lambda: standing.grow("left", ()), "left")
        self.refused(standing, Ended, lambda: standing.close("left"), "left")
        self.assertEqual(standing.rim(), [((1, 0), 1)])

    def test_no_promise_is_never_broken(self):
        for closed in itertools.chain.from_iterable(itertools.permutations(("left", "right"), r) for r in range(3)):
            standing = made((1,) * 24, (), UNEVEN, NONE, closed)
            self.assertTrue(standing.rim())

    def test_broken_under_a_lag(self):
        standing = made((1, 2, 3), (), PLAIN, ("lag", 2))
        self.refused(standing, Broken, lambda: standing.close("right"))
        standing.close("left")
        self.refused(standing, Broken, lambda: standing.close("right"))
        standing.grow("right", (4,))
        standing.close("right")
        self.assertEqual(standing.rim(), [((3, 1), 4)])
        standing = made((1, 2), (), PLAIN, ("lag", 2), ("right",))
        self.refused(standing, Broken, lambda: standing.grow("left", (3,)))
        standing.grow("left", ())
        self.assertEqual(standing.rim(), [((2, 0), 2)])
        standing = made((), (), PLAIN, ("lag", 1), ("left",))
        self.refused(standing, Broken, lambda: standing.grow("right", (3, 3)))
        standing.grow("right", (3,))
        self.assertEqual(standing.rim(), [((0, 1), 1)])

    def test_broken_under_a_total(self):
        standing = Standing(PLAIN, ("total", 1))
        self.refused(standing, Broken, lambda: made((1, 2), (3, 4), PLAIN, ("total", 1)) and None)
        standing.grow("left", (1, 2))
        self.assertEqual(standing.rim(), [((0, 0), 0), ((1, 0), 1)])
        self.assertEqual(standing.least(), 2)
        self.refused(standing, Broken, lambda: standing.close("right"))
        self.refused(standing, Broken, lambda: standing.grow("right", (3, 4)))
        standing.grow("right", (1,))
        self.assertEqual(standing.rim(), [((0, 1), 1), ((1, 1), 0), ((2, 1), 1)])
        standing.close("left")
        self.assertEqual(standing.rim(), [((0, 1), 1), ((1, 1), 0), ((2, 1), 1)])
        standing.close("right")
        self.assertEqual(standing.rim(), [((2, 1), 1)])
        nothing = made((), (), PLAIN, ("total", 0), ("left",))
        self.refused(nothing, Broken, lambda: nothing.grow("right", (1,)))

    def test_ended_comes_before_broken(self):
        standing = made((1, 2), (), PLAIN, ("lag", 2), ("right",))
        self.refused(standing, Ended, lambda: standing.grow("right", (1,) * 20), "right")
        standing.close("left")
        self.refused(standing, Ended, lambda: standing.grow("left", (1,)), "left")

    def test_least_may_be_greater_than_the_total(self):
        standing = made((1, 2, 3), (), PLAIN, ("total", 2))
        self.assertEqual(standing.least(), 3)
        self.assertEqual(standing.rim(), [((0, 0), 0), ((1, 0), 1), ((2, 0), 2)])

    def test_no_least_under_a_lag(self):
        standing = made((1, 2, 3), (), PLAIN, ("lag", 2))
        self.assertIsNone(standing.least())
        self.assertEqual(standing.rim(), [((0, 0), 0), ((1, 0), 1), ((2, 0), 2)])

    def test_a_lag_lets_a_head_run_ahead(self):
        standing = made((1,) * 10, (1,) * 4, PLAIN, ("lag", 2))
        self.assertEqual(standing.rim(), [((2, 4), 2), ((3, 4), 1), ((4, 4), 0), ((5, 4), 1), ((6, 4), 2)])

    def test_heads_in_any_pieces(self):
        chance = rng(30)
        for _ in range(60):
            left, right = random_text(chance, 6), random_text(chance, 6)
            prices = random_prices(chance)
            promise = chance.choice(PROMISES[:5])
            whole = made(left, right, prices, promise)
            pieces = Standing(prices, promise)
            waiting = {"left": left, "right": right}
            while waiting["left"] or waiting["right"]:
                side = chance.choice(["left", "right"])
                many = chance.randint(0, 2)
                pieces.grow(side, waiting[side][:many])
                waiting[side] = waiting[side][many:]
            self.assertEqual(state(pieces), state(whole))

    def test_a_refused_grow_or_close_changes_nothing(self):
        chance = rng(31)
        refused = 0
        for _ in range(300):
            standing = Standing(random_prices(chance), chance.choice(PROMISES[1:]))
            for _ in range(6):
                side = chance.choice(["left", "right"])
                before = state(standing)
                closed = not standing.is_open(side)
                try:
                    if chance.random() < 0.3:
                        standing.close(side)
                    else:
                        standing.grow(side, random_text(chance, 3))
                except (Ended, Broken) as error:
                    refused += 1
                    self.assertIs(isinstance(error, Ended), closed)
                    self.assertEqual(state(standing), before)
                self.assertEqual(standing.rim(), slow_rim(standing))
                self.assertTrue(standing.rim())
        self.assertGreater(refused, 100)

    def test_twins(self):
        standing = made((1, 2), (3,), UNEVEN, ("lag", 2), ("right",))
        twin = standing.twin()
        self.assertIsInstance(twin, Standing)
        self.assertEqual(state(twin), state(standing))
        twin.grow("left", (4,))
        self.assertEqual(standing.head("left"), (1, 2))
        self.assertEqual(twin.head("left"), (1, 2, 4))
        standing.close("left")
        self.assertIs(twin.is_open("left"), True)
        self.assertIs(standing.is_open("left"), False)
        self.assertEqual(twin.rim(), slow_rim(twin))
        self.assertEqual(standing.rim(), slow_rim(standing))
        open_one = made((1,), (2,))
        open_twin = open_one.twin()
        open_one.close("right")
        self.assertIs(open_twin.is_open("right"), True)

    def test_what_is_returned_may_be_changed(self):
        standing = made((1, 2), (1,))
        before = state(standing)
        standing.rim().clear()
        standing.rim()[0] = None
        standing.prices().table()[1] = (9, 9)
        self.assertEqual(state(standing), before)


class Rims(unittest.TestCase):
    """[5], [30]"""

    def test_order(self):
        both = made((1, 2), (3, 4))
        self.assertEqual([point for point, _ in both.rim()], [(0, 2), (1, 2), (2, 2), (2, 1), (2, 0)])
        self.assertEqual([worth for _, worth in both.rim()], [2, 3, 4, 3, 2])
        both.close("left")
        self.assertEqual([point for point, _ in both.rim()], [(0, 2), (1, 2), (2, 2)])
        other = made((1, 2), (3, 4), closed=("right",))
        self.assertEqual([point for point, _ in other.rim()], [(2, 2), (2, 1), (2, 0)])
        other.close("left")
        self.assertEqual(other.rim(), [((2, 2), 4)])

    def test_empty_heads(self):
        for closed in ((), ("left",), ("right",), ("left", "right")):
            self.assertEqual(made((), (), closed=closed).rim(), [((0, 0), 0)])
        self.assertEqual(made((7,), ()).rim(), [((0, 0), 0), ((1, 0), 1)])
        self.assertEqual(made((), (7,)).rim(), [((0, 1), 1), ((0, 0), 0)])

    def test_against_the_words(self):
        chance = rng(32)
        seen = 0
        for _ in range(400):
            standing = random_standing(chance)
            if standing is not None:
                seen += 1
                self.assertEqual(standing.rim(), slow_rim(standing))
                self.assertEqual(standing.least(), slow_least(standing.head("left"), standing.head("right"),
                                                              standing.prices(), standing.promised()))
        self.assertGreater(seen, 200)


class Echoes(unittest.TestCase):
    """[31]"""

    def test_echoes(self):
        standing = made((1, 2), (3, 4))
        told = [echo(standing, point) for point, _ in standing.rim()]
        self.assertEqual(told, [((), (1, 2)), ((), (2,)), ((), ()), ((4,), ()), ((3, 4), ())])

    def test_what_is_not_on_the_rim(self):
        standing = made((1, 2), (3, 4))
        for thing in [(0, 0), (1, 1), (0, 1), (3, 2), (2, 3), (-1, 2), (2, -1), (0, 2, 0), (0,), [0, 2], None, True,
                      (True, 2), (2, True), (2, False), ("0", 2), 2, "", {0: 2}, {}, Lane(), ((0, 2), 2)]:
            with self.assertRaises(NotOnRim) as caught:
                echo(standing, thing)
            self.assertIs(caught.exception.point, thing)
        for thing in odd_values():
            with self.assertRaises(NotOnRim) as caught:
                echo(standing, thing)
            self.assertIs(caught.exception.point, thing)

    def test_truths_are_no_coordinates(self):
        standing = Standing(PLAIN, NONE)
        self.assertEqual(echo(standing, (0, 0)), ((), ()))
        for thing in [(False, 0), (0, False), (False, False)]:
            with self.assertRaises(NotOnRim) as caught:
                echo(standing, thing)
            self.assertIs(caught.exception.point, thing)

    def test_points_that_a_promise_or_an_end_takes_off_the_rim(self):
        for standing, point in [(made((1, 2), (), PLAIN, ("total", 1)), (2, 0)),
                                (made((1, 2), (), PLAIN, ("lag", 1)), (2, 0)),
                                (made((1, 2), (), closed=("right",)), (0, 0)),
                                (made((), (1, 2), closed=("left",)), (0, 1))]:
            with self.assertRaises(NotOnRim) as caught:
                echo(standing, point)
            self.assertEqual(caught.exception.point, point)

    def test_behind_an_echo_stands_its_d(self):
        chance = rng(33)
        for _ in range(300):
            standing = random_standing(chance)
            if standing is not None:
                for point, worth in standing.rim():
                    going_on = echo(standing, point)
                    self.assertEqual(price_behind(standing, going_on), worth)
                    i, j = point
                    self.assertEqual(going_on, (standing.head("right")[j:], standing.head("left")[i:]))


class PricesBehind(unittest.TestCase):
    """[5], [31]"""

    def test_some(self):
        standing = made((1, 2), (2,), UNEVEN)
        self.assertEqual(price_behind(standing, ((), ())), 9)
        self.assertEqual(price_behind(standing, ((), (1, 2))), 4)
        self.assertEqual(price_behind(standing, ((0,), (0,))), 9)
        self.assertEqual(price_behind(standing, ((), (0,))), 12)
        self.assertEqual(price_behind(standing, ((0,), ())), 11)

    def test_going_ons_that_are_not_let(self):
        standing = made((1, 2), (), PLAIN, ("total", 2))
        self.assertEqual(price_behind(standing, ((), ())), 2)
        self.assertIsNone(price_behind(standing, ((3,), ())))
        self.assertEqual(price_behind(standing, ((), (1, 3))), 2)
        self.assertIsNone(price_behind(standing, ((), (3,))))
        standing = made((1, 2), (), PLAIN, ("lag", 1))
        self.assertIsNone(price_behind(standing, ((), ())))
        self.assertEqual(price_behind(standing, ((), (1,))), 1)
        self.assertIsNone(price_behind(standing, ((), (1, 1, 1, 1))))
        self.assertEqual(price_behind(standing, ((1,), (1, 1, 1, 1))), 3)

    def test_ended(self):
        standing = made((1,), (1,), closed=("left",))
        self.assertEqual(price_behind(standing, ((), (1,))), 1)
        for going_on, side in [(((1,), ()), "left"), (((1,), (1,)), "left")]:
            with self.assertRaises(Ended) as caught:
                price_behind(standing, going_on)
            self.assertEqual(caught.exception.side, side)
        standing.close("right")
        self.assertEqual(price_behind(standing, ((), ())), 0)
        for going_on, side in [(((1,), ()), "left"), (((), (1,)), "right"), (((1,), (1,)), "left")]:
            with self.assertRaises(Ended) as caught:
                price_behind(standing, going_on)
            self.assertEqual(caught.exception.side, side)

    def test_ended_comes_before_none(self):
        standing = made((1,), (1,), PLAIN, ("lag", 1), ("right",))
        with self.assertRaises(Ended) as caught:
            price_behind(standing, ((1,) * 9, (1,)))
        self.assertEqual(caught.exception.side, "right")

    def test_against_a_slow_way(self):
        chance = rng(34)
        for _ in range(150):
            standing = random_standing(chance)
            if standing is not None:
                for _ in range(15):
                    going_on = tuple(random_text(chance, 4) if standing.is_open(side) else ()
                                     for side in ("left", "right"))
                    before = state(standing)
                    self.assertEqual(price_behind(standing, going_on), slow_behind(standing, going_on))
                    self.assertEqual(state(standing), before)

    def test_long_ones(self):
        chance = rng(35)
        for promise in PROMISES:
            head = tuple(chance.randrange(3) for _ in range(24))
            standing = made(head, head, UNEVEN, promise)
            going_on = (tuple(chance.randrange(3) for _ in range(80)), tuple(chance.randrange(3) for _ in range(80)))
            self.assertEqual(price_behind(standing, going_on), slow_behind(standing, going_on))
            self.assertEqual(price_behind(standing, (going_on[0], going_on[0])), 0)

    def test_a_going_on_is_dearer_than_some_rim_point(self):
        """Each let going-on leads over a rim point, which so has a D of at most its price."""
        for left in texts_up_to(2, 2):
            standing = made(left, (0,), UNEVEN)
            lowest = min(worth for _, worth in standing.rim())
            for going_on in itertools.product(texts_up_to(2, 2), repeat=2):
                self.assertGreaterEqual(price_behind(standing, going_on), lowest)


if __name__ == "__main__":
    unittest.main()
