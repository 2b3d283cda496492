import copy
import unittest

from helpers import (NONE, PLAIN, PROMISES, UNEVEN, all_scripts, odd_values, random_prices, random_text, rng,
                     slow_allowed, slow_points, slow_price)
from saidearly.grids import grid, least, least_script
from saidearly.papers import heights, is_bound, is_least


class Papers(unittest.TestCase):
    """[22]"""

    def test_heights(self):
        self.assertEqual(heights((1, 2), (2,), PLAIN, NONE), [[0, -1], [1, 0], [0, 1]])
        self.assertEqual(heights((), (), PLAIN, NONE), [[0]])
        self.assertEqual(heights((0,), (), UNEVEN, NONE), [[0], [2]])
        self.assertEqual(heights((), (0, 1), UNEVEN, NONE), [[0, 3, 4]])

    def test_no_least_under_a_lag(self):
        self.assertIsNone(heights((1, 2), (), PLAIN, ("lag", 1)))
        self.assertIsNone(heights((), (1,) * 5, PLAIN, ("lag", 4)))
        self.assertEqual(heights((1,), (), PLAIN, ("lag", 1)), [[0], [1]])

    def test_a_bound_may_be_without_a_least(self):
        self.assertIs(is_bound((1, 2), (), PLAIN, ("lag", 1), [[0], [1], [None]]), True)
        self.assertIs(is_bound((1, 2), (), PLAIN, ("lag", 1), [[0], [-7], [None]]), True)
        self.assertIs(is_bound((1, 2), (), PLAIN, ("lag", 1), [[0], [1], [2]]), False)
        self.assertIs(is_least((1, 2), (), PLAIN, ("lag", 1), "dd", [[0], [1], [None]]), False)

    def test_heights_and_grid_meet_on_cheapest_scripts(self):
        chance = rng(22)
        for _ in range(80):
            left = random_text(chance, 4)
            right = random_text(chance, 4)
            prices = random_prices(chance)
            promise = chance.choice(PROMISES)
            best = least(left, right, prices, promise)
            low = heights(left, right, prices, promise)
            if best is None:
                self.assertIsNone(low)
                continue
            high = grid(left, right, prices, promise)
            self.assertIs(is_bound(left, right, prices, promise, low), True)
            self.assertEqual(low[-1][-1], best)
            on_a_cheapest = {point for script in all_scripts(left, right) if slow_allowed(script, promise)
                             and slow_price(script, left, right, prices) == best for point in slow_points(script)}
            for i, row in enumerate(low):
                for j, entry in enumerate(row):
                    self.assertEqual(entry is None, high[i][j] is None)
                    self.assertEqual(entry is not None and entry == high[i][j], (i, j) in on_a_cheapest)

    def test_heights_are_the_least_bound(self):
        chance = rng(23)
        for _ in range(80):
            left = random_text(chance, 4)
            right = random_text(chance, 4)
            prices = random_prices(chance)
            promise = chance.choice(PROMISES)
            low = heights(left, right, prices, promise)
            for i, row in enumerate(low or []):
                for j, entry in enumerate(row):
                    if entry is not None:
                        # No bound can be lower here: some script from here to the end would climb too high.
                        ways = [slow_price(script, left[i:], right[j:], prices)
                                for script in all_scripts(left[i:], right[j:])
                                if promise[0] != "lag" or all(abs(i + x - j - y) <= promise[1]
                                                              for x, y in slow_points(script))]
                        self.assertEqual(entry, low[-1][-1] - min(ways))

    def test_grid_is_the_greatest_bound(self):
        chance = rng(24)
        for _ in range(60):
            left = random_text(chance, 5)
            right = random_text(chance, 5)
            prices = random_prices(chance)
            promise = chance.choice(PROMISES)
            high = grid(left, right, prices, promise)
            self.assertIs(is_bound(left, right, prices, promise, high), True)
            for i, row in enumerate(high):
                for j, entry in enumerate(row):
                    if entry is not None:
                        rows = copy.deepcopy(high)
                        rows[i][j] = entry + 1
                        self.assertIs(is_bound(left, right, prices, promise, rows), False)

    def test_bounds_of_small_texts(self):
        """All integers from -3 to 3 in the places, against the words of [22]."""
        left, right = (0,), (0,)
        prices = UNEVEN
        steps = [((0, 0), (1, 1), 0), ((0, 0), (1, 0), 2), ((0, 0), (0, 1), 3), ((1, 0), (1, 1), 3),
                 ((0, 1), (1, 1), 2)]
        values = range(-3, 4)
        for a in (-1, 0, 1):
            for b in values:
                for c in values:
                    for d in values:
                        rows = [[a, b], [c, d]]
                        right_one = a == 0 and all(rows[y][z] <= rows[w][x] + cost
                                                   for (w, x), (y, z), cost in steps)
                        self.assertIs(is_bound(left, right, prices, NONE, rows), right_one)

    def test_entries_one_too_great_or_too_small(self):
        rows = heights((1, 2), (2, 1), PLAIN, NONE)
        best = least((1, 2), (2, 1), PLAIN, NONE)
        script = least_script((1, 2), (2, 1), PLAIN, NONE)
        self.assertIs(is_least((1, 2), (2, 1), PLAIN, NONE, script, rows), True)
        for i in range(3):
            for j in range(3):
                for more in (-1, 1):
                    other = copy.deepcopy(rows)
                    other[i][j] += more
                    told = is_bound((1, 2), (2, 1), PLAIN, NONE, other)
                    if more < 0 and (i, j) != (2, 2):
                        self.assertIs(told, False)
                    self.assertIs(is_least((1, 2), (2, 1), PLAIN, NONE, script, other),
                                  told and other[2][2] == best)

    def test_none_put_in_or_left_out(self):
        self.assertIs(is_bound((1,), (1,), PLAIN, NONE, [[0, 1], [1, 0]]), True)
        for i in range(2):
            for j in range(2):
                rows = [[0, 1], [1, 0]]
                rows[i][j] = None
                self.assertIs(is_bound((1,), (1,), PLAIN, NONE, rows), False)
        rows = [[0, 1, None], [1, 0, 1]]
        self.assertIs(is_bound((1,), (1, 1), PLAIN, ("lag", 1), rows), True)
        self.assertIs(is_bound((1,), (1, 1), PLAIN, ("lag", 2), rows), False)
        self.assertIs(is_bound((1,), (1, 1), PLAIN, ("lag", 1), [[0, 1, 2], [1, 0, 1]]), False)
        self.assertIs(is_bound((1,), (1, 1), PLAIN, ("lag", 1), [[0, 1, 0], [1, 0, 1]]), False)
        self.assertIs(is_bound((1,), (1, 1), PLAIN, ("lag", 2), [[0, 1, 2], [1, 0, 1]]), True)

    def test_truths_are_no_integers(self):
        self.assertIs(is_bound((1,), (1,), PLAIN, NONE, [[False, 1], [1, 0]]), False)
        self.assertIs(is_bound((1,), (1,), PLAIN, NONE, [[0, True], [1, 0]]), False)
        self.assertIs(is_bound((1,), (1,), PLAIN, NONE, [[0, 1], [True, 0]]), False)
        self.assertIs(is_bound((1,), (1,), PLAIN, NONE, [[0, 1], [1, False]]), False)
        self.assertIs(is_least((1,), (1,), PLAIN, NONE, "k", [[0, 1], [1, False]]), False)

    def test_rows_of_a_wrong_form(self):
        wrong = [((0, 1), (1, 0)), [(0, 1), [1, 0]], [[0, 1], (1, 0)], [[0, 1]], [[0, 1], [1, 0], [2, 1]],
                 [[0, 1], [1]], [[0, 1, 2], [1, 0]], [[0, 1], [1, 0, 1]], [], [[], []], [[0, 1], [1, "0"]],
                 [[0, 1], None], {0: [0, 1], 1: [1, 0]}, [[0], [1]], [[0, 1], {0: 1, 1: 0}], ["01", "10"]]
        for rows in wrong:
            self.assertIs(is_bound((1,), (1,), PLAIN, NONE, rows), False)
            self.assertIs(is_least((1,), (1,), PLAIN, NONE, "k", rows), False)

    def test_the_first_entry_is_nothing(self):
        self.assertIs(is_bound((), (), PLAIN, NONE, [[0]]), True)
        self.assertIs(is_bound((), (), PLAIN, NONE, [[1]]), False)
        self.assertIs(is_bound((), (), PLAIN, NONE, [[-1]]), False)
        self.assertIs(is_bound((1,), (), PLAIN, NONE, [[-1], [0]]), False)
        self.assertIs(is_bound((1,), (), PLAIN, NONE, [[0], [-10 ** 39]]), True)

    def test_steps_between_points_of_the_band_only(self):
        # From (0, 1) a put would lead out of the band; this step is not asked.
        rows = [[0, -5, None], [-5, -5, -5], [None, -5, -5]]
        self.assertIs(is_bound((1, 2), (1, 2), PLAIN, ("lag", 1), rows), True)
        rows[1][2] = -3
        self.assertIs(is_bound((1, 2), (1, 2), PLAIN, ("lag", 1), rows), False)

    def test_is_least(self):
        left, right = (1, 2, 3), (2, 3, 1)
        rows = grid(left, right, PLAIN, NONE)
        self.assertIs(is_least(left, right, PLAIN, NONE, "dkkp", rows), True)
        self.assertIs(is_least(left, right, PLAIN, NONE, "ppkddp", rows), False)
        self.assertIs(is_least(left, right, PLAIN, NONE, "ppkdd", rows), False)
        self.assertIs(is_least(left, right, PLAIN, NONE, "dkk", rows), False)
        self.assertIs(is_least(left, right, PLAIN, NONE, "dkkpp", rows), False)
        self.assertIs(is_least(left, right, PLAIN, NONE, "", rows), False)
        self.assertIs(is_least((), (), PLAIN, NONE, "", [[0]]), True)
        # A bound whose last entry is smaller than the price proves nothing.
        rows[-1][-1] -= 1
        self.assertIs(is_bound(left, right, PLAIN, NONE, rows), True)
        self.assertIs(is_least(left, right, PLAIN, NONE, "dkkp", rows), False)

    def test_is_least_under_a_lag(self):
        left, right = (1, 2, 3, 4), (3, 4, 1, 2)
        wide = grid(left, right, PLAIN, ("lag", 2))
        tight = grid(left, right, PLAIN, ("lag", 1))
        self.assertIs(is_least(left, right, PLAIN, ("lag", 2), "ddkkpp", wide), True)
        self.assertIs(is_least(left, right, PLAIN, ("lag", 1), "ddkkpp", wide), False)
        self.assertIs(is_least(left, right, PLAIN, ("lag", 1), "ddkkpp", tight), False)
        self.assertIs(is_least(left, right, PLAIN, ("lag", 1), "dpdpdpdp", tight), True)

    def test_a_script_that_leaves_the_lag_at_the_price(self):
        # Both scripts cost 2, but one of them goes to (2, 0) on its way.
        left, right = (1, 1), (2, 2)
        rows = grid(left, right, PLAIN, ("lag", 1))
        self.assertIs(is_least(left, right, PLAIN, ("lag", 1), "dpdp", rows), True)
        self.assertIs(is_least(left, right, PLAIN, ("lag", 1), "ddpp", rows), False)

    def test_a_total_changes_nothing(self):
        left, right = (1, 2), (3,)
        self.assertEqual(heights(left, right, PLAIN, ("total", 0)), heights(left, right, PLAIN, NONE))
        self.assertIs(is_bound(left, right, PLAIN, ("total", 0), grid(left, right, PLAIN, NONE)), True)
        self.assertIs(is_least(left, right, PLAIN, ("total", 0), "ddp", grid(left, right, PLAIN, NONE)), True)

    def test_any_value(self):
        for thing in odd_values():
            self.assertIs(is_bound((1,), (1,), PLAIN, NONE, thing), False)
            self.assertIs(is_bound((1,), (1,), PLAIN, NONE, [[0, 1], thing]), False)
            self.assertIs(is_least((1,), (1,), PLAIN, NONE, "k", thing), False)
            self.assertIs(is_least((1,), (1,), PLAIN, NONE, thing, [[0, 1], [1, 0]]), thing == "k")
            if not (isinstance(thing, int) and not isinstance(thing, bool)):
                self.assertIs(is_bound((1,), (1,), PLAIN, NONE, [[0, 1], [1, thing]]), False)
        self.assertEqual([thing for thing in odd_values() if is_bound((), (), PLAIN, NONE, thing)], [[[0]]])

    def test_rows_stay_as_they_are(self):
        rows = [[0, 1], [1, 0]]
        is_bound((1,), (1,), PLAIN, NONE, rows)
        is_least((1,), (1,), PLAIN, NONE, "k", rows)
        self.assertEqual(rows, [[0, 1], [1, 0]])

    def test_what_is_returned_is_new(self):
        heights((1,), (1,), PLAIN, NONE)[0].clear()
        rows = heights((1,), (1,), PLAIN, NONE)
        self.assertEqual(rows, [[0, -1], [-1, 0]])
        self.assertIsNot(rows[0], rows[1])


if __name__ == "__main__":
    unittest.main()
