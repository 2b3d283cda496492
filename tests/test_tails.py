import functools
import unittest

from helpers import (NONE, PLAIN, PROMISES, UNEVEN, odd_values, random_prices, random_saying, random_text, rng,
                     slow_least, texts_up_to)
from saidearly.errors import Broken, EarlyError, Ended, NoSaying, NoSuchLetter, NotComparable, UnderLag, Wrong
from saidearly.extras import greatest_extra
from saidearly.prices import Prices
from saidearly.sayings import is_saying
from saidearly.standings import Standing, echo
from saidearly.tails import Tails, extra_with_tails
from test_standings import made, state


def slow_held(left, right, prices, head, tail, saying, tail_saying):
    """The smallest price of a script that fits two texts and holds both sayings, or None.

    head and tail are the numbers of letters of the heads and of the tails, which may be the same letters.
    """
    n, m = len(left), len(right)
    longest = len(str(saying))

    def meant(told, i, j):
        """What a keep does to a saying: the atoms that it makes true or false."""
        spot = (i, j)
        found = []
        for name, size, low in (("head", head, (0, 0)), ("tail", tail, (n - tail[0], m - tail[1]))):
            if name == told:
                a, b = spot[0] - low[0], spot[1] - low[1]
                if 0 <= a < size[0] and 0 <= b < size[1]:
                    found = [("kept", a, b), ("alone", "left", a), ("alone", "right", b)]
        return found

    def is_so(which, thing, done, begun):
        word = thing[0]
        if word == "not":
            return not is_so(which, thing[1], done, begun)
        if word == "and":
            return is_so(which, thing[1], done, begun) and is_so(which, thing[2], done, begun)
        if word == "or":
            return is_so(which, thing[1], done, begun) or is_so(which, thing[2], done, begun)
        if word == "begins":
            used = (thing[1].count("k") + thing[1].count("d"), thing[1].count("k") + thing[1].count("p"))
            return begun.startswith(thing[1]) and used[0] <= head[0] and used[1] <= head[1]
        return ((which, thing) in done) == (word == "kept")

    @functools.lru_cache(maxsize=None)
    def rest(i, j, done, begun):
        if (i, j) == (n, m):
            held = is_so("head", saying, done, begun)
            return 0 if held and (tail_saying is None or is_so("tail", tail_saying, done, begun)) else 10 ** 6
        ways = []
        if i < n and j < m and left[i] == right[j]:
            more = {(which, atom) for which in ("head", "tail") for atom in meant(which, i, j)}
            ways.append(rest(i + 1, j + 1, done | (more & named), (begun + "k")[:longest]))
        if i < n:
            ways.append(prices.drop(left[i]) + rest(i + 1, j, done, (begun + "d")[:longest]))
        if j < m:
            ways.append(prices.put(right[j]) + rest(i, j + 1, done, (begun + "p")[:longest]))
        return min(ways)

    def atoms_in(which, thing):
        if thing is None:
            return set()
        if thing[0] in ("not", "and", "or"):
            return set().union(*[atoms_in(which, part) for part in thing[1:]])
        return {(which, thing)} if thing[0] != "begins" else set()

    def begins_in(thing):
        if thing[0] in ("not", "and", "or"):
            return max(begins_in(part) for part in thing[1:])
        return len(thing[1]) if thing[0] == "begins" else 0

    named = atoms_in("head", saying) | atoms_in("tail", tail_saying)
    longest = begins_in(saying)
    worth = rest(0, 0, frozenset(), "")
    return None if worth >= 10 ** 5 else worth


def whole_extra(standing, tails, saying, tail_saying, going_on):
    """The extra of holding both under a going-on, with the tails behind it; None too if it is not let."""
    heads = standing.head("left"), standing.head("right")
    left, right = heads[0] + going_on[0] + tails.left(), heads[1] + going_on[1] + tails.right()
    least = slow_least(left, right, standing.prices(), NONE)
    promise = standing.promised()
    if promise[0] == "total" and least > promise[1]:
        return "not let"
    held = slow_held(left, right, standing.prices(), (len(heads[0]), len(heads[1])),
                     (len(tails.left()), len(tails.right())), saying, tail_saying)
    return None if held is None else held - least


def slow_parts(standing, tails, saying, tail_saying):
    """The lists of (C, D, echo) of the rim and of (C, D, tail echo) of the tail rim."""
    prices = standing.prices()
    left, right = standing.head("left"), standing.head("right")
    heads = []
    for point, worth in standing.rim():
        going_on = echo(standing, point)
        heads.append((slow_held(left + going_on[0], right + going_on[1], prices, (len(left), len(right)), (0, 0),
                                saying, None), worth, going_on))
    a, b = tails.left(), tails.right()
    ends = []
    spots = [(i, 0) for i in range(len(a), -1, -1)] + [(0, j) for j in range(1, len(b) + 1)]
    for i, j in spots:
        going_on = ((), a[:i]) if j == 0 else (b[:j], ())
        ends.append((slow_held(going_on[0] + a, going_on[1] + b, prices, (0, 0), (len(a), len(b)), ("begins", ""),
                               tail_saying), slow_least(a[i:], b[j:], prices, NONE), going_on))
    return heads, ends


def slow_extra_with_tails(standing, tails, saying, tail_saying):
    """[47] by its words; None without any pair."""
    heads, ends = slow_parts(standing, tails, saying, tail_saying)
    promise = standing.promised()
    best = None
    for p in heads:
        for q in ends:
            if promise[0] != "total" or p[1] + q[1] <= promise[1]:
                number = None if None in (p[0], q[0]) else p[0] - p[1] + q[0] - q[1]
                rank = (1, 0) if number is None else (0, number)
                if best is None or rank > best[0]:
                    best = (rank, number, p, q)
    if best is None:
        return None
    _, number, p, q = best
    costs = sum(part[1] if part[0] is None else part[0] for part in (p, q))
    many = 0
    while 2 * many <= costs:
        many += 1
    used = set(standing.head("left") + standing.head("right") + tails.left() + tails.right())
    used |= set(standing.prices().table())
    row = tuple([letter for letter in range(many + len(used)) if letter not in used][:many])
    return number, (p[2][0] + row + q[2][0], p[2][1] + row + q[2][1])


def random_tails_case(chance, longest=3, promise=None):
    """A standing, tails with its prices, a saying and a tail saying or None."""
    while True:
        prices = random_prices(chance)
        left, right = random_text(chance, longest), random_text(chance, longest)
        standing = Standing(prices, promise or chance.choice([NONE, ("total", 4), ("total", 12), ("total", 60)]))
        try:
            standing.grow("left", left)
            standing.grow("right", right)
        except Broken:
            continue
        tails = Tails(prices, random_text(chance, longest), random_text(chance, longest))
        saying = random_saying(chance, len(left), len(right)) if left + right else ("begins", "")
        tail_saying = None
        if tails.left() + tails.right() and chance.random() < 0.8:
            tail_saying = random_saying(chance, len(tails.left()), len(tails.right()))
        if is_saying(saying) and "begins" not in str(tail_saying):
            return standing, tails, saying, tail_saying


class Making(unittest.TestCase):
    """[46]"""

    def test_wrong_arguments(self):
        for thing in odd_values():
            for others in (((), ()), (None, thing), (thing, None)):
                if not isinstance(thing, Prices):
                    with self.assertRaises(Wrong) as caught:
                        Tails(thing, *others)
                    self.assertEqual(caught.exception.place, 0)
            if thing not in [(), (0,), (0, 0)]:
                for other in ((), None, (1,) * 9):
                    with self.assertRaises(Wrong) as caught:
                        Tails(PLAIN, thing, other)
                    self.assertEqual(caught.exception.place, 1)
                with self.assertRaises(Wrong) as caught:
                    Tails(PLAIN, (1,), thing)
                self.assertEqual(caught.exception.place, 2)

    def test_eight_letters_and_nine(self):
        tails = Tails(PLAIN, (1,) * 8, (2,) * 8)
        self.assertEqual((tails.left(), tails.right()), ((1,) * 8, (2,) * 8))
        for left, right, place in (((1,) * 9, (), 1), ((), (1,) * 9, 2), ((1,) * 9, (1,) * 9, 1)):
            with self.assertRaises(Wrong) as caught:
                Tails(PLAIN, left, right)
            self.assertEqual(caught.exception.place, place)

    def test_empty_tails(self):
        tails = Tails(UNEVEN, (), ())
        self.assertEqual((tails.left(), tails.right(), tails.rim(), tails.least()), ((), (), [((0, 0), 0)], 0))

    def test_rim(self):
        tails = Tails(Prices({1: (2, 5)}), (1, 2), (2,))
        self.assertEqual(tails.rim(), [((2, 0), 1), ((1, 0), 0), ((0, 0), 2), ((0, 1), 3)])
        self.assertEqual(tails.least(), 0)
        self.assertEqual(Tails(PLAIN, (), (3, 4)).rim(), [((0, 0), 2), ((0, 1), 1), ((0, 2), 0)])
        self.assertEqual(Tails(PLAIN, (3, 4), ()).rim(), [((2, 0), 0), ((1, 0), 1), ((0, 0), 2)])

    def test_rim_by_its_words(self):
        chance = rng(46)
        for _ in range(60):
            prices, left, right = random_prices(chance), random_text(chance, 8), random_text(chance, 8)
            tails = Tails(prices, left, right)
            spots = [(i, 0) for i in reversed(range(len(left) + 1))] + [(0, j) for j in range(1, len(right) + 1)]
            wanted = [((i, j), slow_least(left[i:], right[j:], prices, NONE)) for i, j in spots]
            self.assertEqual(tails.rim(), wanted)
            self.assertEqual(tails.least(), min(worth for _, worth in wanted))

    def test_what_is_returned_is_new(self):
        tails = Tails(PLAIN, (1,), (2,))
        tails.rim().clear()
        self.assertEqual(len(tails.rim()), 3)


class Extra(unittest.TestCase):
    """[47]"""

    def test_some(self):
        standing = made((1,), (1,))
        tails = Tails(PLAIN, (2,), (2,))
        self.assertEqual(extra_with_tails(standing, tails, ("begins", "k"), None), (0, ((0, 3), (1, 0, 3, 2))))
        self.assertEqual(extra_with_tails(standing, tails, ("begins", "d"), None)[0], 2)

    def test_the_first_pair_and_the_row(self):
        standing = made((5,), (6,))
        tails = Tails(PLAIN, (7,), (0,))
        # The extras of "d" are 2, 0, 0 at the rim's points (0, 1), (1, 1), (1, 0); all of the tails' are 0.
        number, going_on = extra_with_tails(standing, tails, ("begins", "d"), None)
        self.assertEqual(number, 2)
        # C is 3 and 1, so that the row has three letters: 1, 2, 3, as 0 stands in a tail.
        self.assertEqual(going_on, ((1, 2, 3), (5, 1, 2, 3, 7)))

    def test_new_letters_are_in_no_table(self):
        prices = Prices({0: (9, 9), 3: (1, 2), 4: (1, 1)})
        standing = made((1,), (1,), prices)
        tails = Tails(prices, (2,), (2,))
        # C is 1 + 1 for "begins", "k" at the first pair.
        self.assertEqual(extra_with_tails(standing, tails, ("begins", "k"), None), (0, ((4, 5), (1, 4, 5, 2))))

    def test_the_number_of_new_letters(self):
        """Its double is greater than C(p) + C(q), but not that of one less."""
        for longest in range(7):
            standing = made((8,) * longest, ())
            tails = Tails(PLAIN, (), ())
            number, going_on = extra_with_tails(standing, tails, ("begins", "d" * longest), None)
            # At the first point, (0, 0), nothing is done before the echo of all letters: C is 2 * longest.
            self.assertEqual(number, 2 * longest)
            row = tuple(range(longest + 1)) if longest < 8 else None
            self.assertEqual(going_on, (row, (8,) * longest + row))

    def test_empty_tails(self):
        chance = rng(470)
        for _ in range(40):
            standing, _, saying, _ = random_tails_case(chance)
            tails = Tails(standing.prices(), (), ())
            found = extra_with_tails(standing, tails, saying, None)
            number, going_on = greatest_extra(standing, saying)
            self.assertEqual(found[0], number)
            self.assertEqual(found, slow_extra_with_tails(standing, tails, saying, None))
            for whole, part in zip(found[1], going_on):
                self.assertEqual(whole[:len(part)], part)

    def test_what_no_script_holds(self):
        standing = made((1,), (2,))
        tails = Tails(PLAIN, (3,), (4,))
        first = ((0, 5), (1, 0, 5, 3))
        for saying, tail_saying in ((("kept", 0, 0), None), (("begins", ""), ("kept", 0, 0)),
                                    (("kept", 0, 0), ("kept", 0, 0)), (("begins", "k"), ("alone", "left", 0)),
                                    (("begins", "dd"), None)):
            number, going_on = extra_with_tails(standing, tails, saying, tail_saying)
            self.assertIsNone(number)
            wanted = slow_extra_with_tails(standing, tails, saying, tail_saying)
            self.assertEqual((number, going_on), wanted)
        # A missing C counts as the D: 1 and 1 at the first points.
        self.assertEqual(extra_with_tails(standing, tails, ("kept", 0, 0), None)[1], first)

    def test_by_its_words(self):
        chance = rng(471)
        met = 0
        while met < 150:
            standing, tails, saying, tail_saying = random_tails_case(chance)
            wanted = slow_extra_with_tails(standing, tails, saying, tail_saying)
            if wanted is None:
                with self.assertRaises(Broken):
                    extra_with_tails(standing, tails, saying, tail_saying)
            else:
                met += 1
                self.assertEqual(extra_with_tails(standing, tails, saying, tail_saying), wanted,
                                 (state(standing), tails.left(), tails.right(), saying, tail_saying))

    def test_tails_of_eight_letters(self):
        chance = rng(472)
        for _ in range(8):
            left = tuple(chance.randrange(3) for _ in range(8))
            right = tuple(chance.randrange(3) for _ in range(8))
            tails = Tails(UNEVEN, left, right)
            standing = made(random_text(chance, 3), (1,), UNEVEN)
            tail_saying = ("or", ("alone", "right", 7), ("and", ("not", ("kept", 7, 0)), ("alone", "left", 0)))
            self.assertEqual(extra_with_tails(standing, tails, ("alone", "right", 0), tail_saying),
                             slow_extra_with_tails(standing, tails, ("alone", "right", 0), tail_saying))

    def test_it_is_the_extra_under_the_going_on(self):
        """The going-on is let, and holding both really costs so much more under it."""
        chance = rng(473)
        met = 0
        while met < 60:
            standing, tails, saying, tail_saying = random_tails_case(chance, 2)
            try:
                number, going_on = extra_with_tails(standing, tails, saying, tail_saying)
            except Broken:
                continue
            met += 1
            self.assertEqual(whole_extra(standing, tails, saying, tail_saying, going_on), number)

    def test_no_short_going_on_has_more(self):
        chance = rng(474)
        texts = texts_up_to(2, 3)
        met = 0
        while met < 25:
            standing, tails, saying, tail_saying = random_tails_case(chance, 2)
            try:
                number, _ = extra_with_tails(standing, tails, saying, tail_saying)
            except Broken:
                continue
            met += 1
            for a in texts[::2]:
                for b in texts[::3]:
                    extra = whole_extra(standing, tails, saying, tail_saying, (a, b))
                    if extra != "not let" and number is not None:
                        self.assertIsNotNone(extra)
                        self.assertLessEqual(extra, number)

    def test_a_total_that_lets_some_pairs_and_none(self):
        tails = Tails(PLAIN, (3,), (4,))
        with self.assertRaises(Broken):
            extra_with_tails(made((1,), (2,), PLAIN, ("total", 1)), tails, ("begins", "d"), None)
        for total in range(2, 7):
            standing = made((1,), (2,), PLAIN, ("total", total))
            self.assertEqual(extra_with_tails(standing, tails, ("begins", "d"), None),
                             slow_extra_with_tails(standing, tails, ("begins", "d"), None))
        # "d" is dear at the rim point (0, 1), whose D is 9, and at none that costs less.
        prices = Prices({2: (1, 9)})
        tails = Tails(prices, (3,), (3,))
        for total, number in ((8, 0), (9, 2), (10, 2)):
            standing = made((1,), (2,), prices, ("total", total))
            found = extra_with_tails(standing, tails, ("begins", "d"), None)
            self.assertEqual(found, slow_extra_with_tails(standing, tails, ("begins", "d"), None))
            self.assertEqual(found[0], number)
        # Under ("total", 2) each of the two points that make one of both dear is let, but not both together.
        tails = Tails(PLAIN, (0,), (0, 1))
        for total, number in ((2, 2), (3, 4), (4, 4)):
            standing = made((0,), (1, 1), PLAIN, ("total", total))
            found = extra_with_tails(standing, tails, ("begins", "d"), ("alone", "left", 0))
            self.assertEqual(found, slow_extra_with_tails(standing, tails, ("begins", "d"), ("alone", "left", 0)))
            self.assertEqual(found[0], number)

    def test_begins_and_all_words(self):
        standing = made((1, 2), (2, 1))
        tails = Tails(PLAIN, (1, 2), (2, 1))
        both = ("and", ("begins", "d"), ("or", ("kept", 1, 0), ("alone", "right", 1)))
        for tail_saying in (None, ("kept", 0, 1), ("kept", 1, 0), ("not", ("kept", 0, 1)), ("alone", "left", 0),
                            ("and", ("alone", "left", 0), ("not", ("alone", "right", 0))),
                            ("or", ("kept", 0, 0), ("alone", "right", 1))):
            self.assertEqual(extra_with_tails(standing, tails, both, tail_saying),
                             slow_extra_with_tails(standing, tails, both, tail_saying))

    def test_the_same_tails_beside_several_standings(self):
        tails = Tails(UNEVEN, (0, 1), (1,))
        before = (tails.left(), tails.right(), tails.rim(), tails.least())
        for standing in (made((1,), (), UNEVEN), made((0, 1), (1, 0), UNEVEN, ("total", 60)), made((), (), UNEVEN)):
            told = state(standing)
            self.assertEqual(extra_with_tails(standing, tails, ("begins", ""), ("kept", 1, 0)),
                             slow_extra_with_tails(standing, tails, ("begins", ""), ("kept", 1, 0)))
            self.assertEqual((tails.left(), tails.right(), tails.rim(), tails.least()), before)
            self.assertEqual(state(standing), told)


class Errors(unittest.TestCase):
    """[47], [41]: in their order"""

    def refused(self, kind, standing, tails, saying, tail_saying, *fields):
        with self.assertRaises(EarlyError) as caught:
            extra_with_tails(standing, tails, saying, tail_saying)
        self.assertIs(caught.exception.__class__, kind)
        self.assertEqual(list(vars(caught.exception).values()), list(fields))

    def test_the_order(self):
        bad = ("not", ("begins", ""))
        # With everything wrong, from the first to the last error.
        standing = made((1,), (1,), PLAIN, ("lag", 2), ("left", "right"))
        tails = Tails(UNEVEN, (2,), (2,))
        self.refused(NoSaying, standing, tails, bad, bad, bad)
        self.refused(NoSuchLetter, standing, tails, ("kept", 0, 1), bad, "right", 1)
        self.refused(NoSaying, standing, tails, ("kept", 0, 0), bad, bad)
        self.refused(NoSuchLetter, standing, tails, ("kept", 0, 0), ("kept", 1, 1), "left", 1)
        self.refused(UnderLag, standing, tails, ("kept", 0, 0), None)
        total = made((1,), (1,), PLAIN, ("total", 0), ("left", "right"))
        self.refused(Ended, total, tails, ("kept", 0, 0), None, "left")
        total = made((1,), (1,), PLAIN, ("total", 0), ("right",))
        self.refused(Ended, total, tails, ("kept", 0, 0), None, "right")
        total = made((1,), (1,), PLAIN, ("total", 0))
        self.refused(NotComparable, total, Tails(UNEVEN, (2,), (3,)), ("kept", 0, 0), None)
        self.refused(Broken, total, Tails(PLAIN, (2,), (3,)), ("kept", 0, 0), None)
        # Only the ends of both rims are let, and there nothing waits.
        self.assertEqual(extra_with_tails(total, Tails(PLAIN, (2,), (2,)), ("kept", 0, 0), None), (0, ((0,), (0,))))

    def test_every_promise(self):
        tails = Tails(PLAIN, (2,), (2,))
        for promise in PROMISES:
            standing = made((1,), (1,), PLAIN, promise)
            if promise[0] == "lag":
                self.refused(UnderLag, standing, tails, ("kept", 0, 0), None)
            else:
                self.assertEqual(extra_with_tails(standing, tails, ("kept", 0, 0), None),
                                 slow_extra_with_tails(standing, tails, ("kept", 0, 0), None))

    def test_each_closed_side(self):
        tails = Tails(PLAIN, (2,), (2,))
        for closed, side in ((("left",), "left"), (("right",), "right"), (("right", "left"), "left")):
            self.refused(Ended, made((1,), (1,), PLAIN, NONE, closed), tails, ("kept", 0, 0), None, side)

    def test_broken(self):
        tails = Tails(PLAIN, (3,), (4,))
        self.refused(Broken, made((1,), (2,), PLAIN, ("total", 1)), tails, ("begins", ""), None)
        self.assertEqual(extra_with_tails(made((1,), (1,), PLAIN, ("total", 1)), tails, ("begins", ""), None)[0], 0)

    def test_no_tail_sayings(self):
        standing = made((1,), (1,))
        tails = Tails(PLAIN, (2, 1), (2,))
        for thing in [thing for thing in odd_values() if thing is not None] + [
                ("begins", ""), ("begins", "k"), ("and", ("kept", 0, 0), ("begins", "")),
                ("or", ("begins", "k"), ("kept", 9, 9)), ("not", ("not", None))]:
            with self.assertRaises(NoSaying) as caught:
                extra_with_tails(standing, tails, ("kept", 0, 0), thing)
            self.assertIs(caught.exception.thing, thing)

    def test_letters_that_the_tails_lack(self):
        standing = made((1, 1, 1), (1, 1, 1))
        tails = Tails(PLAIN, (2, 1), (2,))
        for saying, side, number in [(("kept", 2, 1), "left", 2), (("kept", 1, 1), "right", 1),
                                     (("alone", "right", 1), "right", 1), (("alone", "left", 2), "left", 2),
                                     (("or", ("kept", 1, 0), ("alone", "right", 5)), "right", 5),
                                     (("alone", "left", 10 ** 30), "left", 10 ** 30)]:
            self.refused(NoSuchLetter, standing, tails, ("kept", 0, 0), saying, side, number)
        self.refused(NoSuchLetter, standing, tails, ("kept", 3, 3), ("kept", 2, 1), "left", 3)
        self.refused(NoSuchLetter, standing, Tails(PLAIN, (), ()), ("kept", 0, 0), ("kept", 0, 0), "left", 0)
        self.assertIsNotNone(extra_with_tails(standing, tails, ("kept", 0, 0), ("kept", 0, 0)))

    def test_a_saying_beside_any_value(self):
        standing = made((1,), (1,))
        tails = Tails(PLAIN, (), ())
        for thing in odd_values():
            self.refused(NoSaying, standing, tails, thing, thing, thing)


if __name__ == "__main__":
    unittest.main()
