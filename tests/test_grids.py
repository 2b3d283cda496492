import unittest

from helpers import (NONE, PLAIN, PROMISES, UNEVEN, all_scripts, random_prices, random_text, rng, slow_allowed,
                     slow_least, slow_price, texts_up_to)
from saidearly.grids import grid, least, least_many, least_script
from saidearly.prices import Prices
from saidearly.scripts import fits, is_allowed, price


class Grids(unittest.TestCase):
    """[21]"""

    def check(self, left, right, prices, promise):
        """Compare with all scripts that fit."""
        scripts = [script for script in all_scripts(left, right) if slow_allowed(script, promise)]
        worths = [slow_price(script, left, right, prices) for script in scripts]
        best = min(worths, default=None)
        first = [script for script, worth in zip(scripts, worths) if worth == best][:1]
        self.assertEqual(least(left, right, prices, promise), best)
        self.assertEqual(least_script(left, right, prices, promise), first[0] if first else None)
        self.assertEqual(least_many(left, right, prices, promise), worths.count(best))

    def test_a_grid(self):
        self.assertEqual(grid((1, 2), (2,), PLAIN, NONE), [[0, 1], [1, 2], [2, 1]])
        self.assertEqual(grid((0, 1), (1, 0), UNEVEN, NONE), [[0, 1, 4], [2, 3, 1], [11, 2, 5]])

    def test_a_grid_under_a_lag(self):
        rows = grid((1, 2, 3), (1, 2, 3), PLAIN, ("lag", 1))
        self.assertEqual(rows, [[0, 1, None, None], [1, 0, 1, None], [None, 1, 0, 1], [None, None, 1, 0]])
        rows = grid((1, 2, 3, 4), (), PLAIN, ("lag", 2))
        self.assertEqual(rows, [[0], [1], [2], [None], [None]])
        rows = grid((), (1, 2, 3, 4), PLAIN, ("lag", 3))
        self.assertEqual(rows, [[0, 1, 2, 3, None]])

    def test_empty_texts(self):
        for promise in PROMISES:
            self.assertEqual(grid((), (), PLAIN, promise), [[0]])
            self.assertEqual(least((), (), PLAIN, promise), 0)
            self.assertEqual(least_script((), (), PLAIN, promise), "")
            self.assertEqual(least_many((), (), PLAIN, promise), 1)
        self.assertEqual(least_script((1, 2), (), PLAIN, NONE), "dd")
        self.assertEqual(least_script((), (1, 2), PLAIN, NONE), "pp")

    def test_no_least_under_a_lag(self):
        self.assertIsNone(least((1, 1), (), PLAIN, ("lag", 1)))
        self.assertIsNone(least_script((1, 1), (), PLAIN, ("lag", 1)))
        self.assertEqual(least_many((1, 1), (), PLAIN, ("lag", 1)), 0)
        self.assertIsNone(least_script((0,) * 3, (0,) * 8, PLAIN, ("lag", 4)))
        self.assertEqual(least_many((0,) * 3, (0,) * 8, PLAIN, ("lag", 4)), 0)
        self.assertEqual(least_script((0,) * 3, (0,) * 7, PLAIN, ("lag", 4)), "kkkpppp")

    def test_a_total_changes_nothing(self):
        for left, right in [((1, 2, 3), (4, 5)), ((1,), (2,)), ((), (1, 2))]:
            for total in (0, 1, 5):
                for function in (grid, least, least_script, least_many):
                    self.assertEqual(function(left, right, UNEVEN, ("total", total)),
                                     function(left, right, UNEVEN, NONE))

    def test_the_first_script_of_many(self):
        self.assertEqual(least_script((1, 1), (1,), PLAIN, NONE), "kd")
        self.assertEqual(least_script((1,), (1, 1), PLAIN, NONE), "kp")
        self.assertEqual(least_script((1, 2), (2, 1), PLAIN, NONE), "dkp")
        self.assertEqual(least_script((1,), (2,), PLAIN, NONE), "dp")
        self.assertEqual(least_many((1, 2), (2, 1), PLAIN, NONE), 2)
        self.assertEqual(least_many((1,) * 4, (1,) * 2, PLAIN, NONE), 6)
        self.assertEqual(least_many((1,) * 3, (2,) * 3, PLAIN, NONE), 20)

    def test_a_lag_makes_it_dearer(self):
        left = (1, 2, 3, 4, 5)
        right = (4, 5, 1, 2, 3)
        self.assertEqual(least(left, right, PLAIN, ("lag", 1)), 10)
        self.assertEqual(least(left, right, PLAIN, ("lag", 2)), 4)
        self.assertEqual(least_script(left, right, PLAIN, ("lag", 2)), "ppkkkdd")
        self.assertEqual(least(left, right, PLAIN, NONE), 4)

    def test_all_small_texts(self):
        texts = texts_up_to(3, 2)
        for left in texts:
            for right in texts:
                for promise in (NONE, ("lag", 1), ("lag", 2), ("total", 1)):
                    self.check(left, right, PLAIN, promise)

    def test_texts_and_prices_of_all_kinds(self):
        chance = rng(21)
        for _ in range(150):
            self.check(random_text(chance, 5), random_text(chance, 5), random_prices(chance), chance.choice(PROMISES))

    def test_entries_are_the_leasts_of_beginnings(self):
        chance = rng(22)
        for _ in range(40):
            left = random_text(chance, 9)
            right = random_text(chance, 9)
            prices = random_prices(chance)
            promise = chance.choice(PROMISES)
            rows = grid(left, right, prices, promise)
            self.assertEqual([len(row) for row in rows], [len(right) + 1] * (len(left) + 1))
            for i, row in enumerate(rows):
                for j, entry in enumerate(row):
                    self.assertEqual(entry, slow_least(left[:i], right[:j], prices, promise))
                    if promise[0] == "lag":
                        self.assertEqual(entry is None, abs(i - j) > promise[1])

    def test_extreme_prices(self):
        prices = Prices({0: (9, 9), 1: (1, 9), 2: (9, 1)})
        self.assertEqual(least((0,), (), prices, NONE), 9)
        self.assertEqual(least((), (0, 1), prices, NONE), 18)
        self.assertEqual(least((1, 0, 1), (0,), prices, NONE), 2)
        self.assertEqual(least_script((1, 0), (0, 1), prices, NONE), "dkp")
        self.assertEqual(least((1, 0), (0, 1), prices, NONE), 10)

    def test_long_texts(self):
        chance = rng(60)
        for promise in PROMISES:
            left = tuple(chance.randrange(3) for _ in range(60))
            right = tuple(chance.randrange(3) for _ in range(60))
            script = least_script(left, right, UNEVEN, promise)
            self.assertTrue(fits(script, left, right))
            self.assertTrue(is_allowed(script, promise))
            self.assertEqual(price(script, left, right, UNEVEN), least(left, right, UNEVEN, promise))
            self.assertEqual(slow_least(left, right, UNEVEN, promise), least(left, right, UNEVEN, promise))
            self.assertGreater(least_many(left, right, UNEVEN, promise), 0)
        self.assertGreater(least_many((0,) * 60, (1,) * 60, PLAIN, NONE), 10 ** 34)
        self.assertEqual(least_script((0,) * 60, (1,) * 60, PLAIN, NONE), "d" * 60 + "p" * 60)
        self.assertEqual(least_script((0,) * 60, (1,) * 60, PLAIN, ("lag", 1)), "dp" * 1 + "dp" * 59)
        self.assertEqual(least_script((0,) * 60, (1,) * 60, PLAIN, ("lag", 2))[:6], "ddpdpd")

    def test_what_is_returned_is_new(self):
        rows = grid((1,), (1,), PLAIN, NONE)
        rows[0][0] = 7
        rows[1].clear()
        self.assertEqual(grid((1,), (1,), PLAIN, NONE), [[0, 1], [1, 0]])
        rows = grid((1,), (1,), PLAIN, NONE)
        self.assertIsNot(rows[0], rows[1])


if __name__ == "__main__":
    unittest.main()
