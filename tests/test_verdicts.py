import unittest

from helpers import NONE, PLAIN, PROMISES, UNEVEN, odd_values, rng, slow_allowed, slow_behind, slow_price
from saidearly.errors import EarlyError, NeedsNoPromise, NoSaying, NoSuchLetter
from saidearly.extras import greatest_extra
from saidearly.sayings import holds
from saidearly.scripts import fits
from saidearly.standings import Standing, echo
from saidearly.verdicts import free_below, is_free, is_possible, is_sure, shown_possible, shown_unsure
from test_extras import open_going_ons, priced_scripts, random_case, slow_extra
from test_sayings import slow_holds
from test_standings import made, state

VERDICTS = (is_free, is_possible, is_sure, shown_possible, shown_unsure, free_below)


def slow_verdicts(standing, saying, going_ons):
    """Whether a saying is free, possible and sure, as far as these going-ons tell."""
    heads = standing.head("left"), standing.head("right")
    free, possible, sure = True, False, True
    for going_on in going_ons:
        scripts = priced_scripts(standing, going_on)
        worth = min(price for _, price in scripts)
        held = [slow_holds(saying, *heads, script) for script, price in scripts if price == worth]
        free = free and any(held)
        possible = possible or any(held)
        sure = sure and all(held)
    return free, possible, sure


class Verdicts(unittest.TestCase):
    """[6], [43]"""

    def told(self, standing, saying):
        found = (is_free(standing, saying), is_possible(standing, saying), is_sure(standing, saying))
        for truth in found:
            self.assertIsInstance(truth, bool)
        return found

    def check_shown(self, standing, saying, shown, wanted):
        self.assertIsInstance(shown, tuple)
        going_on, script = shown
        self.assertIn(going_on, [echo(standing, point) for point, _ in standing.rim()])
        left = standing.head("left") + going_on[0]
        right = standing.head("right") + going_on[1]
        self.assertTrue(fits(script, left, right))
        self.assertTrue(slow_allowed(script, standing.promised()))
        self.assertEqual(slow_price(script, left, right, standing.prices()), slow_behind(standing, going_on))
        self.assertIs(slow_holds(saying, standing.head("left"), standing.head("right"), script), wanted)
        self.assertIs(holds(saying, standing, script), wanted)

    def test_some(self):
        standing = made((1, 2), (2, 1))
        self.assertEqual(self.told(standing, ("kept", 0, 1)), (False, True, False))
        self.assertEqual(self.told(standing, ("kept", 0, 0)), (False, False, False))
        self.assertEqual(self.told(standing, ("not", ("kept", 0, 0))), (True, True, True))
        self.assertEqual(self.told(standing, ("begins", "")), (True, True, True))
        self.assertEqual(self.told(standing, ("begins", "ddd")), (False, False, False))

    def test_free_but_not_sure(self):
        # Each of two equal letters may be the one that is kept.
        standing = made((1, 1), (1,), PLAIN, NONE, ("left", "right"))
        self.assertEqual(self.told(standing, ("kept", 0, 0)), (True, True, False))
        self.assertEqual(self.told(standing, ("or", ("kept", 0, 0), ("kept", 1, 0))), (True, True, True))
        standing = made((1,), (1,))
        self.assertEqual(self.told(standing, ("begins", "k")), (True, True, False))

    def test_possible_but_not_free(self):
        standing = made((1,), (2,))
        self.assertEqual(self.told(standing, ("begins", "d")), (False, True, False))
        self.assertEqual(self.told(standing, ("begins", "p")), (False, True, False))
        self.assertEqual(self.told(standing, ("or", ("begins", "d"), ("begins", "p"))), (True, True, True))

    def test_a_lag_makes_sure(self):
        saying = ("or", ("begins", "dp"), ("begins", "pd"))
        self.assertEqual(self.told(made((1, 1, 1), (2, 2, 2), PLAIN, ("lag", 1)), saying), (True, True, True))
        self.assertEqual(self.told(made((1, 1, 1), (2, 2, 2), PLAIN, ("lag", 2)), saying), (True, True, False))
        self.assertEqual(self.told(made((1, 1, 1), (2, 2, 2)), saying), (False, True, False))

    def test_a_total_makes_sure(self):
        standing = made((1,), (1,), PLAIN, ("total", 0))
        self.assertEqual(self.told(standing, ("begins", "k")), (True, True, True))
        standing = made((1,), (1,), PLAIN, ("total", 1))
        self.assertEqual(self.told(standing, ("begins", "k")), (True, True, False))

    def test_against_short_going_ons(self):
        """What the echoes tell holds of all short going-ons, and the echoes are among these."""
        chance = rng(430)
        for promise in PROMISES:
            for _ in range(12):
                standing, saying = random_case(chance, 2, promise)
                wanted = slow_verdicts(standing, saying, open_going_ons(standing, 2, 3))
                self.assertEqual(self.told(standing, saying), wanted, (state(standing), saying))

    def test_against_all_echoes(self):
        chance = rng(431)
        for _ in range(250):
            standing, saying = random_case(chance)
            wanted = slow_verdicts(standing, saying, [echo(standing, point) for point, _ in standing.rim()])
            self.assertEqual(self.told(standing, saying), wanted, (state(standing), saying))

    def test_sure_is_free_and_free_is_possible(self):
        chance = rng(432)
        seen = set()
        for _ in range(300):
            free, possible, sure = self.told(*random_case(chance))
            self.assertLessEqual(sure, free)
            self.assertLessEqual(free, possible)
            seen.add((free, possible, sure))
        self.assertEqual(len(seen), 4)

    def test_free_is_a_greatest_extra_of_nothing(self):
        chance = rng(433)
        for _ in range(100):
            standing, saying = random_case(chance)
            self.assertIs(is_free(standing, saying), greatest_extra(standing, saying)[0] == 0)

    def test_contraries(self):
        chance = rng(434)
        met = 0
        while met < 150:
            standing, saying = random_case(chance)
            if "begins" in str(saying):
                continue
            met += 1
            contrary = saying[1] if saying[0] == "not" else ("not", saying)
            self.assertIs(is_sure(standing, saying), not is_possible(standing, contrary))
            self.assertIs(is_possible(standing, saying), not is_sure(standing, contrary))
            if is_sure(standing, saying):
                self.assertFalse(is_free(standing, contrary))

    def test_shown(self):
        chance = rng(435)
        for _ in range(400):
            standing, saying = random_case(chance, 4)
            shown = shown_possible(standing, saying)
            self.assertIs(shown is not None, is_possible(standing, saying))
            if shown is not None:
                self.check_shown(standing, saying, shown, True)
            shown = shown_unsure(standing, saying)
            self.assertIs(shown is None, is_sure(standing, saying))
            if shown is not None:
                self.check_shown(standing, saying, shown, False)

    def test_shown_of_the_empty_standing(self):
        for promise in PROMISES:
            standing = Standing(PLAIN, promise)
            self.assertEqual(shown_possible(standing, ("begins", "")), (((), ()), ""))
            self.assertIsNone(shown_unsure(standing, ("begins", "")))
            self.assertIsNone(shown_possible(standing, ("begins", "k")))
            self.assertEqual(shown_unsure(standing, ("begins", "k")), (((), ()), ""))

    def test_shown_of_full_heads(self):
        standing = made((1, 2, 3) * 8, (3, 2, 1) * 8, UNEVEN)
        for saying in [("kept", 1, 1), ("begins", "dd"), ("alone", "left", 23), ("not", ("kept", 1, 1))]:
            shown = shown_possible(standing, saying)
            if shown:
                self.check_shown(standing, saying, shown, True)
            self.check_shown(standing, saying, shown_unsure(standing, saying), False)

    def test_begins_that_go_along_the_end_of_a_head(self):
        """A "begins" whose last steps lead along the rim, and one that the way leaves there."""
        for left, right in (((1, 2, 3), (1,)), ((1, 2), (2, 1)), ((1, 1, 1), (1, 1))):
            for script in ("kdd", "kd", "k", "dd", "pd", "dp", "pp", "kk", "kkd"):
                for closed in ((), ("left",), ("right",), ("left", "right")):
                    standing = made(left, right, PLAIN, NONE, closed)
                    saying = ("begins", script)
                    echoes = [echo(standing, point) for point, _ in standing.rim()]
                    self.assertEqual(self.told(standing, saying), slow_verdicts(standing, saying, echoes))
                    self.assertEqual(is_free(standing, saying),
                                     all(slow_extra(standing, saying, going_on) == 0 for going_on in echoes))


class FreeBelow(unittest.TestCase):
    """[43]: free_below"""

    def test_some(self):
        standing = made((1, 2), (2, 1))
        self.assertIsNone(free_below(standing, ("begins", "")))
        self.assertEqual(free_below(standing, ("kept", 0, 1)), 1)
        self.assertEqual(free_below(standing, ("kept", 0, 0)), 1)
        self.assertEqual(free_below(standing, ("begins", "k")), 1)
        self.assertEqual(free_below(made((1, 2), (1, 2), UNEVEN), ("begins", "d")), 0)

    def test_against_all_echoes(self):
        chance = rng(436)
        for _ in range(150):
            standing, saying = random_case(chance, 3, NONE)
            worths = [worth for point, worth in standing.rim()
                      if slow_extra(standing, saying, echo(standing, point)) != 0]
            self.assertEqual(free_below(standing, saying), min(worths) if worths else None)
            self.assertIs(free_below(standing, saying) is None, is_free(standing, saying))

    def test_under_totals(self):
        """One below the number, at it and above it."""
        chance = rng(437)
        met = 0
        while met < 60:
            standing, saying = random_case(chance, 3, NONE)
            number = free_below(standing, saying)
            closed = [side for side in ("left", "right") if not standing.is_open(side)]
            for total in (0, 60) if number is None else (number - 1, number, number + 1):
                if total < min(worth for _, worth in standing.rim()):
                    continue
                other = made(standing.head("left"), standing.head("right"), standing.prices(), ("total", total),
                             closed)
                self.assertIs(is_free(other, saying), number is None or number > total)
                met += 1

    def test_errors(self):
        for promise in PROMISES[1:]:
            standing = made((1,), (1,), PLAIN, promise)
            with self.assertRaises(NeedsNoPromise):
                free_below(standing, ("begins", "k"))
            with self.assertRaises(NoSuchLetter):
                free_below(standing, ("kept", 1, 0))
            with self.assertRaises(NoSaying):
                free_below(standing, ("kept",))


class Errors(unittest.TestCase):
    """[41], [43]"""

    def test_no_saying(self):
        standing = made((1,), (1,))
        for thing in odd_values() + [("not", ("begins", "")), ("and", ("kept", 5, 5), None)]:
            for verdict in VERDICTS:
                with self.assertRaises(NoSaying) as caught:
                    verdict(standing, thing)
                self.assertIs(caught.exception.thing, thing)

    def test_no_such_letter(self):
        standing = made((1,), (1,))
        before = state(standing)
        for saying, side, number in [(("kept", 1, 1), "left", 1), (("kept", 0, 1), "right", 1),
                                     (("or", ("begins", ""), ("alone", "right", 9)), "right", 9)]:
            for verdict in VERDICTS:
                with self.assertRaises(EarlyError) as caught:
                    verdict(standing, saying)
                self.assertIs(caught.exception.__class__, NoSuchLetter)
                self.assertEqual((caught.exception.side, caught.exception.number), (side, number))
        self.assertEqual(state(standing), before)


if __name__ == "__main__":
    unittest.main()
