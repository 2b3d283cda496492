import itertools
import unittest

from helpers import (NONE, PLAIN, PROMISES, UNEVEN, all_scripts, odd_values, random_saying, random_text, rng,
                     slow_allowed, slow_behind, slow_least, slow_price, texts_up_to)
from saidearly.errors import EarlyError, Ended, NoSaying, NoSuchLetter, NotLet, UnderTotal
from saidearly.extras import extra_behind, greatest_extra, least_extra
from saidearly.grids import least
from saidearly.prices import Prices
from saidearly.sayings import is_saying
from saidearly.standings import Standing, echo, price_behind
from test_sayings import slow_holds
from test_standings import made, random_standing, state


def rank(extra):
    """None is greater than any integer."""
    return (1, 0) if extra is None else (0, extra)


def priced_scripts(standing, going_on):
    """All allowed scripts of the grown texts with their prices."""
    left = standing.head("left") + going_on[0]
    right = standing.head("right") + going_on[1]
    return [(script, slow_price(script, left, right, standing.prices())) for script in all_scripts(left, right)
            if slow_allowed(script, standing.promised())]


def slow_extra(standing, saying, going_on):
    """The extra by going through all scripts."""
    heads = standing.head("left"), standing.head("right")
    scripts = priced_scripts(standing, going_on)
    held = [price for script, price in scripts if slow_holds(saying, *heads, script)]
    return min(held) - min(price for _, price in scripts) if held else None


def open_going_ons(standing, longest, letters):
    """All let going-ons of at most so many letters a side."""
    texts = [texts_up_to(longest, letters) if standing.is_open(side) else [()] for side in ("left", "right")]
    return [pair for pair in itertools.product(*texts) if slow_behind(standing, pair) is not None]


def random_case(chance, longest=3, promise=None):
    """Some standing, its heads not both empty, and a saying about it."""
    while True:
        standing = random_standing(chance, longest, promise)
        if standing is not None and standing.head("left") + standing.head("right"):
            saying = random_saying(chance, len(standing.head("left")), len(standing.head("right")))
            if is_saying(saying):
                return standing, saying


class Extra(unittest.TestCase):
    """[6], [42]: extra_behind"""

    def test_a_keep(self):
        standing = made((1, 2), (2, 1))
        self.assertEqual(extra_behind(standing, ("kept", 0, 1), ((), ())), 0)
        self.assertEqual(extra_behind(standing, ("kept", 1, 0), ((), ())), 0)
        # "kkd" from 2, 1 behind the dropped 1 against "ppdkk".
        self.assertEqual(extra_behind(standing, ("kept", 0, 1), ((1,), ())), 2)
        self.assertEqual(extra_behind(standing, ("kept", 1, 0), ((1,), ())), 0)
        self.assertIsNone(extra_behind(standing, ("kept", 0, 0), ((), ())))

    def test_alone(self):
        standing = made((1,), (1,))
        self.assertEqual(extra_behind(standing, ("alone", "left", 0), ((), ())), 2)
        # The letter may be kept with one that comes later.
        self.assertEqual(extra_behind(standing, ("alone", "left", 0), ((), (1,))), 0)
        self.assertEqual(extra_behind(standing, ("alone", "left", 0), ((1,), ())), 0)
        self.assertEqual(extra_behind(standing, ("alone", "right", 0), ((), (1,))), 0)
        self.assertEqual(extra_behind(standing, ("alone", "right", 0), ((1,), ())), 0)
        self.assertEqual(extra_behind(standing, ("alone", "left", 0), ((2,), ())), 2)
        self.assertEqual(extra_behind(standing, ("alone", "right", 0), ((), (2,))), 2)

    def test_begins(self):
        standing = made((1, 2), (1,), UNEVEN)
        self.assertEqual(extra_behind(standing, ("begins", ""), ((), ())), 0)
        self.assertEqual(extra_behind(standing, ("begins", "k"), ((), ())), 0)
        self.assertEqual(extra_behind(standing, ("begins", "d"), ((), ())), 10)
        self.assertEqual(extra_behind(standing, ("begins", "kd"), ((), (2,))), 5)
        # These leave the heads, whatever comes.
        for script in ("kdd", "kk", "kp", "pp", "kdk"):
            for going_on in (((), ()), ((2,), (2,)), ((), (2, 2))):
                self.assertIsNone(extra_behind(standing, ("begins", script), going_on))

    def test_words(self):
        standing = made((1, 2), (2, 1))
        one, other = ("kept", 0, 1), ("kept", 1, 0)
        nothing = ((), ())
        self.assertIsNone(extra_behind(standing, ("and", one, other), nothing))
        self.assertEqual(extra_behind(standing, ("or", one, other), nothing), 0)
        self.assertEqual(extra_behind(standing, ("not", ("or", one, other)), nothing), 2)
        self.assertEqual(extra_behind(standing, ("not", ("not", one)), nothing), 0)
        self.assertEqual(extra_behind(standing, ("and", ("not", one), ("begins", "d")), nothing), 0)
        self.assertIsNone(extra_behind(standing, ("and", ("kept", 1, 0), ("alone", "left", 1)), nothing))

    def test_a_lag_forbids(self):
        # Without a promise the 1 is kept; the lag lets no script hold that.
        self.assertEqual(extra_behind(made((2, 2, 1), (1, 3, 3)), ("kept", 2, 0), ((), ())), 0)
        standing = made((2, 2, 1), (1, 3, 3), PLAIN, ("lag", 1))
        self.assertIsNone(extra_behind(standing, ("kept", 2, 0), ((), ())))
        self.assertIsNone(extra_behind(standing, ("begins", "dd"), ((), ())))
        self.assertEqual(extra_behind(standing, ("begins", "dp"), ((), ())), 0)

    def test_an_extra_may_be_greater_than_the_total(self):
        standing = made((1,), (1,), Prices({1: (9, 9)}), ("total", 0))
        self.assertEqual(extra_behind(standing, ("begins", "d"), ((), ())), 18)

    def test_against_all_scripts(self):
        chance = rng(42)
        for _ in range(250):
            standing, saying = random_case(chance)
            for _ in range(4):
                going_on = tuple(random_text(chance, 2) if standing.is_open(side) else ()
                                 for side in ("left", "right"))
                if slow_behind(standing, going_on) is None:
                    with self.assertRaises(NotLet):
                        extra_behind(standing, saying, going_on)
                else:
                    self.assertEqual(extra_behind(standing, saying, going_on),
                                     slow_extra(standing, saying, going_on), (state(standing), saying, going_on))

    def test_long_going_ons(self):
        standing = made((1, 2) * 12, (2, 1) * 12)
        going_on = ((1,) * 80, (2,) * 80)
        self.assertEqual(extra_behind(standing, ("begins", "d"), going_on), 0)
        self.assertEqual(extra_behind(standing, ("begins", "dd"), going_on), 2)

    def test_ten_letters_a_side(self):
        chance = rng(43)
        for _ in range(40):
            left = tuple(chance.randrange(3) for _ in range(10))
            right = tuple(chance.randrange(3) for _ in range(10))
            a, b = random_text(chance, 6), random_text(chance, 6)
            standing = made(left, right, UNEVEN)
            whole = slow_least(left + a, right + b, UNEVEN, NONE)
            i, j = chance.randrange(10), chance.randrange(10)
            script = "".join(chance.choice("dp") for _ in range(9))
            spot = script.count("d"), script.count("p")
            through = slow_price(script, left, right, UNEVEN)
            rest = slow_least(left[spot[0]:] + a, right[spot[1]:] + b, UNEVEN, NONE)
            self.assertEqual(extra_behind(standing, ("begins", script), (a, b)), through + rest - whole)
            kept = None
            if left[i] == right[j]:
                kept = (slow_least(left[:i], right[:j], UNEVEN, NONE)
                        + slow_least(left[i + 1:] + a, right[j + 1:] + b, UNEVEN, NONE) - whole)
            self.assertEqual(extra_behind(standing, ("kept", i, j), (a, b)), kept)
            # A letter that is like no letter of the other head cannot be kept within the heads.
            table = {**UNEVEN.table(), 7: (UNEVEN.drop(left[i]), UNEVEN.put(left[i]))}
            strange = left[:i] + (7,) + left[i + 1:]
            alone = slow_least(strange + a, right, Prices(table), NONE) - slow_least(left + a, right, UNEVEN, NONE)
            self.assertEqual(extra_behind(standing, ("alone", "left", i), (a, ())), alone)


class Errors(unittest.TestCase):
    """[42], [41], [31]"""

    def refused(self, kind, call, *fields):
        with self.assertRaises(EarlyError) as caught:
            call()
        self.assertIs(caught.exception.__class__, kind)
        self.assertEqual(list(vars(caught.exception).values()), list(fields))

    def test_all_in_their_order(self):
        standing = made((1,), (2,), PLAIN, ("total", 2), ("left", "right"))
        before = state(standing)
        both, one = ((5,), (5,)), ((), (5,))
        nothing = ("and", ("kept", 0, 1), None)
        self.refused(NoSaying, lambda: extra_behind(standing, nothing, both), nothing)
        self.refused(NoSuchLetter, lambda: extra_behind(standing, ("kept", 0, 1), both), "right", 1)
        self.refused(Ended, lambda: extra_behind(standing, ("kept", 0, 0), both), "left")
        self.refused(Ended, lambda: extra_behind(standing, ("kept", 0, 0), one), "right")
        self.assertIsNone(extra_behind(standing, ("kept", 0, 0), ((), ())))
        self.assertEqual(state(standing), before)

    def test_ended_before_not_let(self):
        standing = made((1,), (2,), PLAIN, ("total", 2), ("left",))
        self.refused(Ended, lambda: extra_behind(standing, ("begins", ""), ((5,), (6, 7))), "left")
        self.refused(NotLet, lambda: extra_behind(standing, ("begins", ""), ((), (6, 7))), ((), (6, 7)))

    def test_not_let(self):
        standing = made((1,), (), PLAIN, ("lag", 1))
        going_on = ((2,), ())
        with self.assertRaises(NotLet) as caught:
            extra_behind(standing, ("alone", "left", 0), going_on)
        self.assertIs(caught.exception.going_on, going_on)
        self.assertEqual(extra_behind(standing, ("alone", "left", 0), ((2,), (3,))), 0)
        standing = made((), (), PLAIN, ("total", 1))
        self.refused(NotLet, lambda: extra_behind(standing, ("begins", ""), ((1,), (2,))), ((1,), (2,)))
        self.refused(NotLet, lambda: extra_behind(standing, ("begins", "k"), ((1,), (2,))), ((1,), (2,)))
        self.assertEqual(extra_behind(standing, ("begins", ""), ((1,), ())), 0)

    def test_no_saying_comes_first(self):
        standing = made((1,), (2,), PLAIN, ("total", 5), ("left",))
        for thing in odd_values():
            for call in (lambda: extra_behind(standing, thing, ((1,), ())), lambda: greatest_extra(standing, thing),
                         lambda: least_extra(standing, thing)):
                with self.assertRaises(NoSaying) as caught:
                    call()
                self.assertIs(caught.exception.thing, thing)

    def test_no_such_letter(self):
        standing = made((1,), (2,), PLAIN, ("total", 5))
        for saying, side, number in [(("kept", 1, 1), "left", 1), (("alone", "right", 3), "right", 3),
                                     (("or", ("kept", 0, 1), ("kept", 5, 0)), "right", 1)]:
            self.refused(NoSuchLetter, lambda: extra_behind(standing, saying, ((), ())), side, number)
            self.refused(NoSuchLetter, lambda: greatest_extra(standing, saying), side, number)
            self.refused(NoSuchLetter, lambda: least_extra(standing, saying), side, number)

    def test_under_total(self):
        for total in (0, 60):
            standing = made((), (), PLAIN, ("total", total))
            self.refused(UnderTotal, lambda: least_extra(standing, ("begins", "")))
            self.assertEqual(greatest_extra(standing, ("begins", "")), (0, ((), ())))


class Rim(unittest.TestCase):
    """[6], [42]: greatest_extra, least_extra"""

    def test_some(self):
        standing = made((1, 2), (2, 1))
        self.assertEqual(greatest_extra(standing, ("kept", 0, 1)), (2, ((1,), ())))
        self.assertEqual(least_extra(standing, ("kept", 0, 1)), (0, ((), (1, 2))))
        self.assertEqual(greatest_extra(standing, ("begins", "")), (0, ((), (1, 2))))
        self.assertEqual(greatest_extra(standing, ("begins", "dd")), (4, ((), (1, 2))))

    def test_the_empty_standing(self):
        for promise in PROMISES:
            standing = Standing(PLAIN, promise)
            self.assertEqual(greatest_extra(standing, ("begins", "")), (0, ((), ())))
            self.assertEqual(greatest_extra(standing, ("begins", "k")), (None, ((), ())))
            if promise[0] != "total":
                self.assertEqual(least_extra(standing, ("begins", "")), (0, ((), ())))
                self.assertEqual(least_extra(standing, ("begins", "p")), (None, ((), ())))

    def test_what_no_script_holds(self):
        standing = made((1, 2), (2, 1))
        first = echo(standing, standing.rim()[0][0])
        for saying in [("kept", 0, 0), ("begins", "k"), ("begins", "ddd"), ("and", ("kept", 0, 1), ("kept", 1, 0))]:
            self.assertEqual(greatest_extra(standing, saying), (None, first))
            self.assertEqual(least_extra(standing, saying), (None, first))

    def test_what_a_lag_lets_no_script_hold(self):
        standing = made((2, 1), (2, 1), PLAIN, ("lag", 1))
        saying = ("and", ("kept", 0, 0), ("or", ("begins", "kd"), ("begins", "kk")))
        self.assertEqual(greatest_extra(standing, saying), (0, ((), (1,))))
        standing = made((1, 2), (3, 1), PLAIN, ("lag", 1))
        rows = [(extra_behind(standing, ("begins", "dpd"), echo(standing, point)), echo(standing, point))
                for point, _ in standing.rim()]
        self.assertEqual(greatest_extra(standing, ("begins", "dpd")), max(rows, key=lambda row: row[0]))
        for saying in [("begins", "dd"), ("begins", "ddpp"), ("and", ("kept", 0, 1), ("begins", "d"))]:
            first = echo(standing, standing.rim()[0][0])
            self.assertEqual(greatest_extra(standing, saying), (None, first))
            self.assertEqual(least_extra(standing, saying), (None, first))

    def test_closed_sides(self):
        saying = ("kept", 0, 1)
        self.assertEqual(greatest_extra(made((1, 2), (2, 1), PLAIN, NONE, ("left",)), saying), (0, ((), (1, 2))))
        self.assertEqual(greatest_extra(made((1, 2), (2, 1), PLAIN, NONE, ("right",)), saying), (2, ((1,), ())))
        self.assertEqual(greatest_extra(made((1, 2), (2, 1), PLAIN, NONE, ("left", "right")), saying), (0, ((), ())))
        self.assertEqual(least_extra(made((1, 2), (2, 1), PLAIN, NONE, ("left", "right")), saying), (0, ((), ())))

    def test_the_first_of_several_points(self):
        standing = made((1, 1), (2, 2))
        extras = [(extra_behind(standing, ("begins", "dd"), echo(standing, point)), echo(standing, point))
                  for point, _ in standing.rim()]
        self.assertEqual([extra for extra, _ in extras], [4, 2, 0, 0, 0])
        self.assertEqual(least_extra(standing, ("begins", "dd")), (0, ((), ())))
        self.assertEqual(greatest_extra(standing, ("begins", "dp")), (2, ((), (1, 1))))
        self.assertEqual([extra_behind(standing, ("begins", "dp"), echo(standing, point))
                          for point, _ in standing.rim()], [2, 0, 0, 0, 2])
        self.assertEqual(least_extra(standing, ("begins", "dp")), (0, ((), (1,))))

    def test_against_all_scripts(self):
        """The extra of each echo by going through all scripts, and the first one of them."""
        chance = rng(44)
        for _ in range(250):
            standing, saying = random_case(chance)
            rows = [(slow_extra(standing, saying, echo(standing, point)), echo(standing, point))
                    for point, _ in standing.rim()]
            self.assertEqual(greatest_extra(standing, saying), max(rows, key=lambda row: rank(row[0])))
            if standing.promised()[0] != "total":
                self.assertEqual(least_extra(standing, saying), min(rows, key=lambda row: rank(row[0])))

    def test_no_going_on_has_more_or_less(self):
        """[6]: what all short going-ons show is reached at the echoes."""
        chance = rng(45)
        for promise in PROMISES:
            for _ in range(4):
                standing, saying = random_case(chance, 2, promise)
                extras = [slow_extra(standing, saying, going_on) for going_on in open_going_ons(standing, 2, 3)]
                greatest = greatest_extra(standing, saying)[0]
                self.assertLessEqual(max(map(rank, extras)), rank(greatest))
                if None in extras:
                    self.assertIsNone(greatest)
                if promise[0] != "total":
                    self.assertLessEqual(rank(least_extra(standing, saying)[0]), min(map(rank, extras)))

    def test_an_echo_is_let(self):
        chance = rng(46)
        for _ in range(100):
            standing, saying = random_case(chance, 5)
            number, going_on = greatest_extra(standing, saying)
            self.assertIsNotNone(price_behind(standing, going_on))
            self.assertEqual(extra_behind(standing, saying, going_on), number)

    def test_ten_letters_a_side(self):
        chance = rng(47)
        for _ in range(6):
            left = tuple(chance.randrange(3) for _ in range(10))
            right = tuple(chance.randrange(3) for _ in range(10))
            standing = made(left, right, UNEVEN)
            spots = [(i, j) for i in range(10) for j in range(10) if left[i] == right[j]]
            i, j = chance.choice(spots)
            rows = []
            for (a, b), worth in standing.rim():
                on_left, on_right = right[b:], left[a:]
                rows.append((least(left[:i], right[:j], UNEVEN, NONE) - worth
                             + least(left[i + 1:] + on_left, right[j + 1:] + on_right, UNEVEN, NONE),
                             (on_left, on_right)))
            self.assertEqual(greatest_extra(standing, ("kept", i, j)), max(rows, key=lambda row: row[0]))
            self.assertEqual(least_extra(standing, ("kept", i, j)), min(rows, key=lambda row: row[0]))

    def test_full_heads(self):
        standing = made((1, 2, 3) * 8, (3, 2, 1) * 8, UNEVEN)
        four = ("and", ("or", ("kept", 1, 1), ("begins", "kd")), ("or", ("alone", "left", 23), ("kept", 23, 0)))
        number, going_on = greatest_extra(standing, four)
        self.assertEqual(extra_behind(standing, four, going_on), number)

    def test_answers_are_equal_and_change_nothing(self):
        standing = made((1, 2), (2, 1))
        before = state(standing)
        saying = ("or", ("kept", 0, 1), ("alone", "right", 0))
        self.assertEqual(greatest_extra(standing, saying), greatest_extra(standing, saying))
        least_extra(standing, saying)
        extra_behind(standing, saying, ((7,), ()))
        self.assertEqual(state(standing), before)


if __name__ == "__main__":
    unittest.main()
