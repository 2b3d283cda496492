import itertools
import unittest

from helpers import (NONE, PLAIN, PROMISES, UNEVEN, all_scripts, odd_values, random_prices, random_text, rng,
                     slow_allowed, slow_least, slow_points, slow_price)
from saidearly.comparer import Comparer
from saidearly.errors import (AlreadyEnded, BeyondEnd, Broken, Contradiction, EarlyError, EndsShort, NotWhole, Wrong)
from saidearly.extras import greatest_extra
from saidearly.grids import least
from saidearly.prices import Prices
from saidearly.scripts import fits, price
from saidearly.standings import echo
from test_standings import made, state


def told(comparer):
    """All that a comparer tells."""
    try:
        loss = comparer.loss()
    except NotWhole:
        loss = "not whole"
    return (state(comparer.standing()), comparer.said(), comparer.reached(),
            [comparer.waiting(side) for side in ("left", "right")], comparer.bill(), loss)


def fed(left, right, prices=PLAIN, promise=NONE, rooms=None):
    """A comparer to which these letters have come."""
    comparer = Comparer(prices, promise, rooms)
    comparer.receive("left", 0, left)
    comparer.receive("right", 0, right)
    return comparer


def first_steps(comparer):
    """The first of the cheapest steps to each point, by going through all scripts of what waits."""
    standing, said = comparer.standing(), comparer.said()
    left, right = comparer.waiting("left"), comparer.waiting("right")
    a, b = comparer.reached()
    ways = {}
    for i, j in itertools.product(range(len(left) + 1), range(len(right) + 1)):
        found = [(slow_price(steps, left[:i], right[:j], standing.prices()), steps)
                 for steps in all_scripts(left[:i], right[:j]) if slow_allowed(said + steps, standing.promised())]
        if found:
            # They come in the order k, d, p.
            ways[(a + i, b + j)] = min(found, key=lambda row: row[0])[1]
    return ways


def echo_scripts(standing):
    """For each echo its allowed scripts with their prices."""
    rows = []
    for point, _ in standing.rim():
        on_left, on_right = echo(standing, point)
        left, right = standing.head("left") + on_left, standing.head("right") + on_right
        rows.append([(script, slow_price(script, left, right, standing.prices())) for script in all_scripts(left, right)
                     if slow_allowed(script, standing.promised())])
    return rows


def cheapest_from(rows, begin):
    return min(cost for script, cost in rows if script.startswith(begin))


def slow_free(comparer):
    """The steps that say_free has to say."""
    rows = echo_scripts(comparer.standing())
    said = comparer.said()
    free = [(point, steps) for point, steps in first_steps(comparer).items()
            if all(cheapest_from(row, said + steps) == cheapest_from(row, said) for row in rows)]
    far = max(i + j for (i, j), _ in free)
    return min((i, steps) for (i, j), steps in free if i + j == far)[1]


def slow_forced(comparer, rooms):
    """The steps that say_forced has to say."""
    left, right = comparer.waiting("left"), comparer.waiting("right")
    if rooms is None or len(left) + len(right) <= rooms:
        return ""
    standing, said = comparer.standing(), comparer.said()
    n, m = len(standing.head("left")), len(standing.head("right"))
    ways = first_steps(comparer)
    waits = {(i, j): n - i + m - j for i, j in ways}
    points = [point for point in ways if waits[point] <= rooms]
    if not points:
        points = [point for point in ways if waits[point] == min(waits.values())]
    ranked = [(greatest_extra(standing, ("begins", said + ways[(i, j)]))[0], i + j, i, ways[(i, j)])
              for i, j in points]
    return min(ranked)[3]


class Making(unittest.TestCase):
    """[50], [R]"""

    def refused(self, place, *arguments):
        with self.assertRaises(Wrong) as caught:
            Comparer(*arguments)
        self.assertEqual(caught.exception.place, place)

    def test_a_new_one(self):
        for promise in PROMISES:
            comparer = Comparer(UNEVEN, promise, None)
            self.assertEqual(told(comparer), (([(), ()], [True, True], UNEVEN, promise, 0, [((0, 0), 0)]), "", (0, 0),
                                              [(), ()], (0, ((), ())), "not whole"))
            self.assertEqual(comparer.say_free(), "")
            self.assertEqual(comparer.say_forced(), "")

    def test_rooms(self):
        for rooms in [None] + list(range(1, 17)):
            Comparer(PLAIN, NONE, rooms)
            Comparer(PLAIN, ("lag", 1), rooms)
        for rooms in range(1, 17):
            self.refused(2, PLAIN, ("total", 60), rooms)
        Comparer(PLAIN, ("total", 60), None)

    def test_wrong_arguments(self):
        for thing in odd_values():
            if not isinstance(thing, Prices):
                self.refused(0, thing, NONE, None)
                self.refused(0, thing, thing, 0)
            if thing != NONE:
                self.refused(1, PLAIN, thing, None)
                self.refused(1, PLAIN, thing, 0)
            if thing is not None and not (thing == 1 and not isinstance(thing, bool)):
                self.refused(2, PLAIN, NONE, thing)
        for rooms in (0, 17, -1, True, False, "1", (1,), 10 ** 20):
            self.refused(2, PLAIN, ("lag", 2), rooms)
            self.refused(2, PLAIN, ("total", 2), rooms)


class Pieces(unittest.TestCase):
    """[50], [13] to [16]"""

    def refused(self, comparer, kind, call, *fields):
        before = told(comparer)
        with self.assertRaises(EarlyError) as caught:
            call()
        self.assertIs(caught.exception.__class__, kind)
        self.assertEqual(list(vars(caught.exception).values()), list(fields))
        self.assertEqual(told(comparer), before)

    def heads(self, comparer):
        return tuple(comparer.standing().head(side) for side in ("left", "right"))

    def is_open(self, comparer):
        return tuple(comparer.standing().is_open(side) for side in ("left", "right"))

    def test_pieces_in_any_order(self):
        comparer = Comparer(PLAIN, NONE, None)
        self.assertIsNone(comparer.receive("left", 2, (3, 4)))
        self.assertEqual(self.heads(comparer), ((), ()))
        self.assertIsNone(comparer.receive("left", 0, (1,)))
        self.assertEqual(self.heads(comparer), ((1,), ()))
        comparer.receive("left", 0, (1, 2, 3))
        self.assertEqual(self.heads(comparer), ((1, 2, 3, 4), ()))
        comparer.receive("left", 1, (2, 3))
        comparer.receive("right", 0, (7,))
        comparer.receive("left", 50, ())
        self.assertEqual(self.heads(comparer), ((1, 2, 3, 4), (7,)))

    def test_lengths(self):
        comparer = Comparer(PLAIN, NONE, None)
        comparer.receive("left", 1, (2,))
        self.assertIsNone(comparer.close("left", 2))
        self.assertEqual(self.is_open(comparer), (True, True))
        comparer.close("right", 0)
        self.assertEqual(self.is_open(comparer), (True, False))
        comparer.receive("left", 0, (1,))
        self.assertEqual(self.is_open(comparer), (False, False))
        self.assertEqual(self.heads(comparer), ((1, 2), ()))
        # What is known already may come once more.
        comparer.receive("left", 0, (1, 2))
        comparer.close("left", 2)
        comparer.receive("right", 5, ())
        self.assertEqual(self.heads(comparer), ((1, 2), ()))

    def test_all_orders_lead_to_the_same(self):
        """A length ahead of, between and behind the pieces of both sides."""
        deeds = [("receive", "left", 0, (1, 2)), ("receive", "left", 1, (2, 3)), ("close", "left", 3),
                 ("receive", "right", 1, (3,)), ("receive", "right", 0, (2,)), ("close", "right", 2)]
        found = []
        for order in itertools.permutations(deeds):
            comparer = Comparer(UNEVEN, ("lag", 2), None)
            for word, *rest in order:
                getattr(comparer, word)(*rest)
            found.append(told(comparer))
        self.assertTrue(all(row == found[0] for row in found))
        self.assertEqual(found[0][0][:2], ([(1, 2, 3), (2, 3)], [False, False]))

    def test_errors_of_the_lanes(self):
        comparer = fed((1, 2), (3,))
        comparer.receive("left", 4, (5,))
        comparer.close("right", 2)
        self.refused(comparer, Contradiction, lambda: comparer.receive("left", 1, (9, 9, 9, 9)), 1)
        self.refused(comparer, Contradiction, lambda: comparer.receive("left", 2, (9, 9, 9, 9)), 4)
        self.refused(comparer, BeyondEnd, lambda: comparer.receive("right", 0, (3, 4, 5)), 2)
        self.refused(comparer, Contradiction, lambda: comparer.receive("right", 0, (4, 4, 5)), 0)
        self.refused(comparer, AlreadyEnded, lambda: comparer.close("right", 3), 2)
        self.refused(comparer, EndsShort, lambda: comparer.close("left", 3), 4)
        comparer.receive("right", 1, (4,))
        self.refused(comparer, BeyondEnd, lambda: comparer.receive("right", 2, (4,)), 2)
        self.refused(comparer, Contradiction, lambda: comparer.receive("right", 1, (5,)), 1)

    def test_a_false_piece_changes_nothing(self):
        comparer = fed((1,), ())
        self.refused(comparer, Contradiction, lambda: comparer.receive("left", 0, (2, 3)), 0)
        comparer.receive("left", 1, (4,))
        self.assertEqual(self.heads(comparer)[0], (1, 4))

    def test_broken_under_a_lag(self):
        comparer = Comparer(PLAIN, ("lag", 1), None)
        comparer.receive("left", 0, (1, 2, 3))
        # A length whose letters have not come counts for nothing; the piece that makes the lane whole is refused.
        comparer.close("right", 1)
        self.refused(comparer, Broken, lambda: comparer.receive("right", 0, (7,)))
        # The lane is unchanged: another letter may still come to the place, but is refused likewise.
        self.refused(comparer, Broken, lambda: comparer.receive("right", 0, (8,)))
        self.refused(comparer, AlreadyEnded, lambda: comparer.close("right", 2), 1)

    def test_broken_by_a_length(self):
        comparer = fed((1, 2, 3), (1,), PLAIN, ("lag", 1))
        self.refused(comparer, Broken, lambda: comparer.close("right", 1))
        # The lane does not know the length.
        comparer.receive("right", 1, (2,))
        comparer.close("right", 2)
        self.assertEqual(self.is_open(comparer), (True, False))
        self.refused(comparer, Broken, lambda: comparer.receive("left", 3, (4,)))
        comparer.close("left", 3)
        self.assertEqual(comparer.loss(), 0)

    def test_broken_under_a_total(self):
        comparer = fed((1,), (2,), PLAIN, ("total", 1))
        comparer.receive("left", 1, (3, 4))
        comparer.close("left", 3)
        self.refused(comparer, Broken, lambda: comparer.receive("right", 1, (5, 6)))
        self.refused(comparer, Broken, lambda: comparer.close("right", 1))
        comparer.receive("right", 1, (1, 3, 4))
        comparer.close("right", 4)
        self.assertEqual(comparer.standing().least(), 1)

    def test_letters_behind_a_gap_do_not_break(self):
        comparer = fed((1,), (), PLAIN, ("total", 0))
        comparer.receive("right", 1, (2,))
        comparer.close("right", 2)
        comparer.receive("left", 1, (3,))
        before = told(comparer)
        with self.assertRaises(Broken):
            comparer.receive("right", 0, (1,))
        self.assertEqual(told(comparer), before)
        # The 1 is not kept by the lane.
        with self.assertRaises(Broken):
            comparer.receive("right", 0, (9,))

    def test_a_standing_is_led_on_by_itself(self):
        comparer = fed((1, 2), (2,))
        standing = comparer.standing()
        standing.grow("left", (9,))
        standing.close("right")
        self.assertEqual(self.heads(comparer), ((1, 2), (2,)))
        self.assertEqual(self.is_open(comparer), (True, True))
        comparer.receive("right", 1, (5,))
        self.assertEqual(standing.head("right"), (2,))


class Saying(unittest.TestCase):
    """[51]"""

    def test_equal_letters_are_kept_at_once(self):
        comparer = fed((1, 2), (1, 2))
        self.assertEqual(comparer.say_free(), "kk")
        self.assertEqual((comparer.said(), comparer.reached()), ("kk", (2, 2)))
        self.assertEqual((comparer.waiting("left"), comparer.waiting("right")), ((), ()))
        self.assertEqual(comparer.say_free(), "")

    def test_nothing_is_free_yet(self):
        comparer = fed((1, 2), (3,))
        self.assertEqual(comparer.say_free(), "")
        self.assertEqual((comparer.waiting("left"), comparer.waiting("right")), ((1, 2), (3,)))

    def test_an_end_makes_free(self):
        comparer = fed((1, 2), (3, 2))
        comparer.close("left", 2)
        # No 3 can come any more on the left.
        self.assertEqual(comparer.say_free(), "p")
        comparer.close("right", 2)
        self.assertEqual(comparer.say_free(), "dk")
        self.assertEqual((comparer.loss(), comparer.bill()), (0, (0, ((), ()))))

    def test_say_free_twice(self):
        chance = rng(510)
        for _ in range(60):
            comparer = fed(random_text(chance, 6), random_text(chance, 6))
            first = comparer.say_free()
            self.assertEqual(comparer.said(), first)
            self.assertEqual(comparer.say_free(), "")
            self.assertEqual(comparer.said(), first)

    def test_say_free_against_all_scripts(self):
        chance = rng(511)
        said = 0
        met = 0
        while met < 150:
            promise = chance.choice(PROMISES)
            comparer = Comparer(random_prices(chance), promise, None)
            met += 1
            for _ in range(3):
                side = chance.choice(["left", "right"])
                head = comparer.standing().head(side)
                text = random_text(chance, 3, 2)
                try:
                    if len(head + text) <= 3:
                        comparer.receive(side, len(head), text)
                    if chance.random() < 0.25:
                        comparer.close(side, len(comparer.standing().head(side)))
                except EarlyError:
                    pass
                wanted = slow_free(comparer)
                said += len(wanted)
                self.assertEqual(comparer.say_free(), wanted)
        self.assertGreater(said, 60)

    def test_say_forced_against_all_scripts(self):
        chance = rng(512)
        forced = 0
        for _ in range(120):
            promise, rooms = chance.choice([NONE, ("lag", 1), ("lag", 2), ("lag", 3)]), chance.choice([1, 1, 2, 3, 4])
            comparer = Comparer(random_prices(chance), promise, rooms)
            for _ in range(3):
                side = chance.choice(["left", "right"])
                head = comparer.standing().head(side)
                text = random_text(chance, 3, 2)
                if len(head + text) <= 4:
                    comparer.receive(side, len(head), text)
                if chance.random() < 0.5:
                    comparer.say_free()
                wanted = slow_forced(comparer, rooms)
                forced += len(wanted)
                before = comparer.said()
                self.assertEqual(comparer.say_forced(), wanted)
                self.assertEqual(comparer.said(), before + wanted)
        self.assertGreater(forced, 100)

    def test_rooms(self):
        for rooms in [None] + list(range(1, 17)):
            comparer = fed((1, 2, 3, 4), (5, 6, 7, 8), PLAIN, NONE, rooms)
            steps = comparer.say_forced()
            left = len(comparer.waiting("left") + comparer.waiting("right"))
            if rooms is None or rooms >= 8:
                self.assertEqual((steps, left), ("", 8))
            else:
                self.assertEqual(left, rooms)
                self.assertEqual(comparer.say_forced(), "")

    def test_several_alike(self):
        # "d" and "p" can cost 2 each; the one with the least i is p.
        self.assertEqual(fed((1,), (2,), PLAIN, NONE, 1).say_forced(), "p")
        # A put that costs more speaks for the drop.
        prices = Prices({1: (1, 1), 2: (1, 2)})
        self.assertEqual(fed((1,), (2,), prices, NONE, 1).say_forced(), "d")
        # Going on to further points would cost no more, but the least i + j is said.
        comparer = fed((1, 1, 1), (1, 1, 1), PLAIN, NONE, 2)
        self.assertEqual(comparer.say_forced(), "kk")
        comparer = fed((1, 1, 1), (1, 1, 1), PLAIN, NONE, 3)
        self.assertEqual(comparer.say_forced(), "kk")

    def test_where_a_lag_leaves_more_than_the_rooms(self):
        comparer = fed((1, 2, 3, 4, 5), (), PLAIN, ("lag", 2), 1)
        self.assertEqual(comparer.say_forced(), "dd")
        self.assertEqual(comparer.waiting("left"), (3, 4, 5))
        self.assertEqual(comparer.say_forced(), "")
        comparer.receive("right", 0, (3,))
        self.assertEqual(comparer.say_forced(), slow_forced_of_twin((1, 2, 3, 4, 5), (3,), "dd", 2, 1))

    def test_only_the_lag_stops(self):
        comparer = fed((1, 1, 1), (2, 2, 2), PLAIN, ("lag", 1), 1)
        comparer.say_forced()
        for i, j in slow_points(comparer.said()):
            self.assertLessEqual(abs(i - j), 1)
        self.assertEqual(len(comparer.waiting("left") + comparer.waiting("right")), 1)

    def test_what_free_steps_say_costs_the_least(self):
        """[9]"""
        chance = rng(513)
        for _ in range(80):
            prices = random_prices(chance)
            left, right = random_text(chance, 8), random_text(chance, 8)
            promise = chance.choice(PROMISES)
            worth = slow_least(left, right, prices, promise)
            if worth is None or (promise[0] == "total" and worth > promise[1]):
                continue
            comparer = Comparer(prices, promise, None)
            spots = [("left", at) for at in range(len(left))] + [("right", at) for at in range(len(right))]
            chance.shuffle(spots)
            for side, at in spots:
                comparer.receive(side, at, (left if side == "left" else right)[at:at + 1])
                comparer.say_free()
                self.assertEqual(comparer.bill()[0], 0)
            for side in ("left", "right"):
                comparer.close(side, len(left if side == "left" else right))
                comparer.say_free()
            script = comparer.said()
            self.assertTrue(fits(script, left, right))
            self.assertEqual(price(script, left, right, prices), worth)
            self.assertTrue(slow_allowed(script, promise))
            self.assertEqual((comparer.loss(), comparer.bill()[0]), (0, 0))

    def test_full_heads(self):
        comparer = fed((1, 2, 3) * 8, (3, 1, 2) * 8, UNEVEN, NONE, 16)
        comparer.say_free()
        steps = comparer.say_forced()
        self.assertTrue(steps)
        self.assertLessEqual(len(comparer.waiting("left") + comparer.waiting("right")), 16)
        self.assertEqual(comparer.bill(), greatest_extra(comparer.standing(), ("begins", comparer.said())))


def slow_forced_of_twin(left, right, said, lag, rooms):
    """What is forced behind some steps that were said without these right letters."""
    twin = fed(left, (), PLAIN, ("lag", lag), rooms)
    assert twin.say_forced() == said
    twin.receive("right", 0, right)
    return slow_forced(twin, rooms)


class Bills(unittest.TestCase):
    """[52]"""

    def test_bill(self):
        comparer = fed((1, 2), (2, 1))
        self.assertEqual(comparer.bill(), (0, ((), (1, 2))))
        chance = rng(520)
        for _ in range(60):
            comparer = fed(random_text(chance, 5), random_text(chance, 5), random_prices(chance),
                           chance.choice([NONE, ("lag", 3)]), 2)
            comparer.say_free()
            first = echo(comparer.standing(), comparer.standing().rim()[0][0])
            self.assertEqual(comparer.bill(), (0, first))
            comparer.say_forced()
            self.assertEqual(comparer.bill(), greatest_extra(comparer.standing(), ("begins", comparer.said())))

    def test_a_bill_of_forced_steps(self):
        comparer = fed((1,), (2,), PLAIN, NONE, 1)
        comparer.say_forced()
        self.assertEqual((comparer.said(), comparer.bill()), ("p", (2, ((2,), ()))))
        comparer.receive("left", 1, (2,))
        self.assertEqual(comparer.bill(), greatest_extra(made((1, 2), (2,)), ("begins", "p")))

    def test_not_whole(self):
        comparer = Comparer(PLAIN, NONE, None)
        for deed in [("receive", "left", 1, (2,)), ("close", "left", 2), ("close", "right", 0)]:
            with self.assertRaises(NotWhole):
                comparer.loss()
            getattr(comparer, deed[0])(*deed[1:])
        with self.assertRaises(NotWhole):
            comparer.loss()
        comparer.receive("left", 0, (1,))
        self.assertEqual(comparer.loss(), 0)
        comparer = Comparer(PLAIN, NONE, None)
        comparer.close("left", 0)
        with self.assertRaises(NotWhole):
            comparer.loss()
        comparer.receive("right", 0, (1,))
        with self.assertRaises(NotWhole):
            comparer.loss()

    def test_the_loss_is_the_bill_then(self):
        chance = rng(521)
        seen = set()
        for _ in range(150):
            prices = random_prices(chance)
            left, right = random_text(chance, 5), random_text(chance, 5)
            promise = chance.choice([NONE, ("lag", 1), ("lag", 2), ("lag", 4)])
            worth = least(left, right, prices, promise)
            if worth is None:
                continue
            comparer = Comparer(prices, promise, chance.randint(1, 4))
            for at in range(5):
                comparer.receive("left", at, left[at:at + 1])
                comparer.say_forced()
                comparer.receive("right", at, right[at:at + 1])
                comparer.say_forced()
            comparer.close("left", len(left))
            comparer.close("right", len(right))
            whole = [slow_price(script, left, right, prices) for script in all_scripts(left, right)
                     if script.startswith(comparer.said()) and slow_allowed(script, promise)]
            self.assertEqual(comparer.loss(), min(whole) - worth)
            self.assertEqual(comparer.bill(), (comparer.loss(), ((), ())))
            seen.add(comparer.loss())
        self.assertGreater(len(seen), 3)

    def test_both_whole_early(self):
        comparer = Comparer(UNEVEN, NONE, None)
        comparer.close("left", 0)
        comparer.close("right", 0)
        self.assertEqual((comparer.loss(), comparer.bill(), comparer.say_free()), (0, (0, ((), ())), ""))


if __name__ == "__main__":
    unittest.main()
