import unittest

from helpers import (NONE, PLAIN, PROMISES, UNEVEN, all_scripts, random_prices, random_text, rng, slow_allowed,
                     slow_least, slow_points, slow_price)
from saidearly.bills import loss_of_script, rest_least, there_and_back
from saidearly.errors import NotAScript
from saidearly.extras import greatest_extra
from saidearly.prices import Prices
from test_standings import made


def rests_of(left, right, promise, point):
    """All scripts of the rest behind a point whose points keep to the promise, the first one too."""
    lag = promise[1] if promise[0] == "lag" else 10 ** 6
    return [script for script in all_scripts(left[point[0]:], right[point[1]:])
            if all(abs(point[0] + a - point[1] - b) <= lag for a, b in slow_points(script))]


def slow_rest(left, right, prices, promise, point):
    worths = [slow_price(script, left[point[0]:], right[point[1]:], prices)
              for script in rests_of(left, right, promise, point)]
    return min(worths) if worths else None


def beginnings(left, right):
    """All scripts that can be done on two texts, to their ends or not."""
    return sorted({script[:many] for script in all_scripts(left, right) for many in range(len(script) + 1)})


class Rests(unittest.TestCase):
    """[55]: rest_least"""

    def test_some(self):
        self.assertEqual(rest_least((1, 2), (2, 3), PLAIN, NONE, (0, 0)), 2)
        self.assertEqual(rest_least((1, 2), (2, 3), PLAIN, NONE, (1, 0)), 1)
        self.assertEqual(rest_least((1, 2), (2, 3), PLAIN, NONE, (0, 1)), 3)
        self.assertEqual(rest_least((1, 2), (2, 3), PLAIN, NONE, (2, 2)), 0)
        self.assertEqual(rest_least((), (), PLAIN, ("lag", 1), (0, 0)), 0)

    def test_points_of_the_ends(self):
        left, right = (0, 1, 2), (2, 2)
        for i in range(4):
            self.assertEqual(rest_least(left, right, UNEVEN, NONE, (i, 2)), UNEVEN.drops(left[i:]))
        for j in range(3):
            self.assertEqual(rest_least(left, right, UNEVEN, NONE, (3, j)), UNEVEN.puts(right[j:]))

    def test_points_outside_a_lag(self):
        self.assertIsNone(rest_least((1, 1, 1), (2, 2, 2), PLAIN, ("lag", 1), (2, 0)))
        self.assertIsNone(rest_least((1, 1, 1), (2, 2, 2), PLAIN, ("lag", 1), (0, 3)))
        self.assertEqual(rest_least((1, 1, 1), (2, 2, 2), PLAIN, ("lag", 2), (2, 0)), 4)
        # The end itself is outside.
        self.assertIsNone(rest_least((1, 1, 1), (1,), PLAIN, ("lag", 1), (0, 0)))
        self.assertIsNone(rest_least((1, 1, 1), (1,), PLAIN, ("lag", 1), (3, 1)))
        self.assertEqual(rest_least((1, 1, 1), (1,), PLAIN, ("lag", 2), (3, 1)), 0)

    def test_a_lag_makes_rests_dearer(self):
        self.assertEqual(rest_least((1, 2, 3), (3, 4, 5), PLAIN, NONE, (0, 0)), 4)
        self.assertEqual(rest_least((1, 2, 3), (3, 4, 5), PLAIN, ("lag", 2), (0, 0)), 4)
        self.assertEqual(rest_least((1, 2, 3), (3, 4, 5), PLAIN, ("lag", 1), (0, 0)), 6)

    def test_against_all_scripts(self):
        chance = rng(55)
        for _ in range(120):
            left, right = random_text(chance, 4), random_text(chance, 4)
            prices, promise = random_prices(chance), chance.choice(PROMISES)
            for i in range(len(left) + 1):
                for j in range(len(right) + 1):
                    self.assertEqual(rest_least(left, right, prices, promise, (i, j)),
                                     slow_rest(left, right, prices, promise, (i, j)))


class Losses(unittest.TestCase):
    """[55]: loss_of_script"""

    def refused(self, index, *arguments):
        with self.assertRaises(NotAScript) as caught:
            loss_of_script(*arguments)
        self.assertEqual(caught.exception.index, index)

    def test_some(self):
        self.assertEqual(loss_of_script((1, 2), (2, 3), PLAIN, NONE, ""), 0)
        self.assertEqual(loss_of_script((1, 2), (2, 3), PLAIN, NONE, "d"), 0)
        self.assertEqual(loss_of_script((1, 2), (2, 3), PLAIN, NONE, "dkp"), 0)
        self.assertEqual(loss_of_script((1, 2), (2, 3), PLAIN, NONE, "p"), 2)
        self.assertEqual(loss_of_script((1, 2), (2, 3), PLAIN, NONE, "ddpp"), 2)

    def test_steps_that_cannot_be_done(self):
        for script, index in [("k", 0), ("dkk", 2), ("dkd", 2), ("dkpp", 3), ("ddd", 2), ("ppp", 2), ("dkpk", 3),
                              ("dkpd", 3), ("dp" * 100, 4), ("pk", 1)]:
            for promise in PROMISES + [("lag", 1)]:
                self.refused(index, (1, 2), (2, 3), PLAIN, promise, script)

    def test_not_a_script_comes_before_a_lag(self):
        # Without its last step, this script leaves the lag, and the texts have no least under it.
        self.assertIsNone(loss_of_script((1, 1, 1), (), PLAIN, ("lag", 1), "ddd"))
        self.refused(3, (1, 1, 1), (), PLAIN, ("lag", 1), "dddd")
        self.refused(3, (1, 1, 1), (), PLAIN, ("lag", 1), "dddp")
        self.refused(0, (1, 1, 1), (), PLAIN, ("lag", 1), "k")

    def test_scripts_that_leave_the_lag(self):
        left, right = (1, 1, 1), (2, 2, 2)
        self.assertIsNone(loss_of_script(left, right, PLAIN, ("lag", 1), "dd"))
        self.assertIsNone(loss_of_script(left, right, PLAIN, ("lag", 1), "dpddppp"[:4]))
        self.assertEqual(loss_of_script(left, right, PLAIN, ("lag", 1), "dppd"), 0)
        self.assertEqual(loss_of_script(left, right, PLAIN, ("lag", 2), "dd"), 0)

    def test_texts_without_a_least(self):
        self.assertIsNone(loss_of_script((1, 1), (), PLAIN, ("lag", 1), ""))
        self.assertIsNone(loss_of_script((1, 1), (), PLAIN, ("lag", 1), "d"))
        self.assertEqual(loss_of_script((1, 1), (), PLAIN, ("lag", 2), "d"), 0)

    def test_a_total_changes_nothing(self):
        self.assertEqual(loss_of_script((1, 2), (2, 3), UNEVEN, ("total", 0), "p"),
                         loss_of_script((1, 2), (2, 3), UNEVEN, NONE, "p"))

    def test_against_all_scripts(self):
        chance = rng(56)
        for _ in range(60):
            left, right = random_text(chance, 3), random_text(chance, 3)
            prices, promise = random_prices(chance), chance.choice(PROMISES)
            worth = slow_least(left, right, prices, promise)
            for script in beginnings(left, right):
                whole = [slow_price(other, left, right, prices) for other in all_scripts(left, right)
                         if other.startswith(script) and slow_allowed(other, promise)]
                wanted = min(whole) - worth if whole else None
                self.assertEqual(loss_of_script(left, right, prices, promise, script), wanted)


class ThereAndBack(unittest.TestCase):
    """[55]: there_and_back"""

    def test_some(self):
        prices = Prices({1: (2, 5)})
        self.assertEqual(there_and_back((1, 2), (2,), prices, (0, 0)), 0)
        self.assertEqual(there_and_back((1, 2), (2,), prices, (1, 0)), 7)
        self.assertEqual(there_and_back((1, 2), (2,), prices, (2, 1)), 7)
        self.assertEqual(there_and_back((1, 2), (2,), prices, (1, 1)), 9)
        self.assertEqual(there_and_back((2, 1), (2,), prices, (1, 1)), 0)

    def test_by_its_words(self):
        chance = rng(57)
        for _ in range(60):
            left, right, prices = random_text(chance, 5), random_text(chance, 5), random_prices(chance)
            i, j = chance.randint(0, len(left)), chance.randint(0, len(right))
            self.assertEqual(there_and_back(left, right, prices, (i, j)),
                             slow_least(left[:i], right[:j], prices, NONE)
                             + slow_least(right[:j], left[:i], prices, NONE))

    def test_what_a_cheapest_beginning_can_cost(self):
        chance = rng(58)
        for _ in range(60):
            left, right, prices = random_text(chance, 3), random_text(chance, 3), random_prices(chance)
            standing = made(left, right, prices)
            for script in beginnings(left, right):
                i, j = slow_points(script)[-1]
                through = slow_price(script, left[:i], right[:j], prices)
                if through == slow_least(left[:i], right[:j], prices, NONE):
                    number = greatest_extra(standing, ("begins", script))[0]
                    self.assertLessEqual(number, there_and_back(left, right, prices, (i, j)))
                    self.assertIs(number == 0, script == "k" * len(script))


if __name__ == "__main__":
    unittest.main()
