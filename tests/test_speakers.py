import itertools
import unittest

from helpers import all_scripts, rng, slow_price
from saidearly.errors import Finished
from saidearly.prices import Prices
from saidearly.rulebooks import Rulebook
from saidearly.scripts import fits
from saidearly.speakers import Speaker, spoken
from test_rulebooks import KEEP, SAME, rule
from test_ruletext import random_book

PAIRS = list(itertools.product((1, 2, 3), repeat=2))


class SlowSpeaker:
    """A speaker by the words of [64], with lists of what waits."""

    def __init__(self, book):
        self.book = book
        self.mark = 0
        self.waits = {"left": [], "right": []}
        self.said = ""

    def holds(self, test):
        left, right = self.waits["left"], self.waits["right"]
        if test[0] in ("same", "unlike"):
            there = test[1] < len(left) and test[2] < len(right)
            return there and (left[test[1]] == right[test[2]]) == (test[0] == "same")
        letters = self.waits[test[1]]
        if test[0] == "many":
            return len(letters) >= test[2]
        return test[3] < len(letters) and letters[test[2]] == letters[test[3]]

    def can_go(self, thing):
        mark, tests, deeds, _ = thing
        enough = (sum(step in "kd" for step in deeds) <= len(self.waits["left"])
                  and sum(step in "kp" for step in deeds) <= len(self.waits["right"]))
        return mark in (None, self.mark) and enough and all(self.holds(test) for test in tests)

    def do(self, deeds):
        for step in deeds:
            if step in "kd":
                self.waits["left"].pop(0)
            if step in "kp":
                self.waits["right"].pop(0)
        self.said += deeds

    def tick(self, x, y):
        before = len(self.said)
        self.waits["left"].append(x)
        self.waits["right"].append(y)
        while True:
            ready = [thing for thing in self.book.rules() if self.can_go(thing)]
            if ready:
                self.do(ready[0][2])
                self.mark = ready[0][3]
            elif len(self.waits["left"]) >= self.book.window():
                self.do("d")
            elif len(self.waits["right"]) >= self.book.window():
                self.do("p")
            else:
                return self.said[before:]

    def stand(self):
        return self.mark, tuple(self.waits["left"]), tuple(self.waits["right"])


def slow_rest(left, right, pair):
    """The first of the cheapest scripts of what waits."""
    prices = Prices({letter: pair for letter in left + right})
    found = [(slow_price(script, left, right, prices), script) for script in all_scripts(left, right)]
    return min(found, key=lambda row: row[0])[1]


def slow_spoken(book, pair, left, right):
    speaker = SlowSpeaker(book)
    for x, y in zip(left, right):
        speaker.tick(x, y)
    return speaker.said + slow_rest(tuple(speaker.waits["left"]), tuple(speaker.waits["right"]), pair)


def equal_texts(chance, many, letters):
    return tuple(tuple(chance.randrange(letters) for _ in range(many)) for _ in range(2))


class Speaking(unittest.TestCase):
    """[60], [64]: tick"""

    def test_a_new_one(self):
        speaker = Speaker(Rulebook(3, 2, (KEEP,)), (1, 2))
        self.assertEqual((speaker.said(), speaker.mark(), speaker.paid()), ("", 0, 0))
        self.assertEqual((speaker.waiting("left"), speaker.waiting("right")), ((), ()))

    def test_a_book_without_rules(self):
        speaker = Speaker(Rulebook(1, 1, ()), (1, 1))
        self.assertEqual([speaker.tick(1, 1), speaker.tick(2, 3)], ["dp", "dp"])
        speaker = Speaker(Rulebook(4, 1, ()), (1, 1))
        self.assertEqual([speaker.tick(k, k) for k in range(5)], ["", "", "", "dp", "dp"])
        self.assertEqual((speaker.waiting("left"), speaker.waiting("right")), ((2, 3, 4), (2, 3, 4)))
        self.assertEqual(speaker.said(), "dpdp")

    def test_d_comes_ahead_of_p(self):
        # The first d makes no rule go; only then p is said.
        speaker = Speaker(Rulebook(2, 1, ()), (1, 1))
        speaker.tick(1, 2)
        self.assertEqual(speaker.tick(3, 4), "dp")
        # Behind the d a rule can go, so that no p is said.
        speaker = Speaker(Rulebook(2, 1, (KEEP,)), (1, 1))
        speaker.tick(1, 2)
        self.assertEqual(speaker.tick(2, 3), "dk")
        # The p makes one go only behind the d.
        speaker = Speaker(Rulebook(2, 1, (KEEP,)), (1, 1))
        speaker.tick(1, 2)
        self.assertEqual(speaker.tick(3, 1), "dp")
        self.assertEqual((speaker.waiting("left"), speaker.waiting("right")), ((3,), (1,)))

    def test_rules_that_go_again_and_again(self):
        book = Rulebook(4, 1, ((None, (("many", "left", 3), SAME), "k", 0), (None, (("unlike", 0, 0),), "d", 0),
                               (None, (SAME, ("same", 1, 1)), "kk", 0)))
        speaker = Speaker(book, (1, 1))
        self.assertEqual([speaker.tick(1, 1), speaker.tick(1, 1), speaker.tick(2, 3)], ["", "kk", "d"])
        speaker = Speaker(Rulebook(2, 1, (KEEP, rule((("many", "right", 2),), "p"))), (1, 1))
        self.assertEqual([speaker.tick(1, 2), speaker.tick(1, 2), speaker.tick(2, 1)], ["", "pd", "pk"])

    def test_the_first_rule_of_several(self):
        one, other = rule((), "d"), rule((), "p")
        self.assertEqual(Speaker(Rulebook(1, 1, (one, other)), (1, 1)).tick(1, 1), "dp")
        self.assertEqual(Speaker(Rulebook(1, 1, (other, one)), (1, 1)).tick(1, 1), "pd")
        self.assertEqual(Speaker(Rulebook(2, 1, (other, KEEP)), (1, 1)).tick(1, 1), "p")
        self.assertEqual(Speaker(Rulebook(2, 1, (KEEP, other)), (1, 1)).tick(1, 1), "k")

    def test_enough_letters_for_the_deeds(self):
        speaker = Speaker(Rulebook(3, 1, (rule((), "dd"),)), (1, 1))
        self.assertEqual([speaker.tick(1, 1), speaker.tick(2, 2), speaker.tick(3, 3), speaker.tick(4, 4)],
                         ["", "dd", "p", "ddp"])
        speaker = Speaker(Rulebook(3, 1, (rule((), "pp"),)), (1, 1))
        self.assertEqual([speaker.tick(1, 1), speaker.tick(2, 2), speaker.tick(3, 3)], ["", "pp", "d"])

    def test_marks(self):
        book = Rulebook(2, 3, ((0, (), "d", 1), (1, (), "p", 2), (2, (SAME,), "k", 0), (2, (), "dp", 2)))
        speaker = Speaker(book, (1, 1))
        self.assertEqual((speaker.tick(1, 1), speaker.mark()), ("dp", 2))
        self.assertEqual((speaker.tick(1, 1), speaker.mark()), ("k", 0))
        self.assertEqual((speaker.tick(1, 2), speaker.mark()), ("dp", 2))
        self.assertEqual((speaker.tick(1, 2), speaker.mark()), ("dp", 2))
        # Without a rule the mark stays.
        speaker = Speaker(Rulebook(1, 2, ((0, (SAME,), "k", 1),)), (1, 1))
        self.assertEqual((speaker.tick(1, 2), speaker.mark()), ("dp", 0))
        self.assertEqual((speaker.tick(1, 1), speaker.mark()), ("k", 1))
        self.assertEqual((speaker.tick(1, 1), speaker.mark()), ("dp", 1))

    def test_each_kind_of_test(self):
        """Two ticks bring 4 letters; the third step tells whether a test held."""
        ticks = [(1, 2), (2, 1)]
        for test, holds in [(("same", 0, 1), True), (("same", 1, 0), True), (("same", 0, 0), False),
                            (("same", 2, 0), False), (("same", 0, 2), False), (("unlike", 0, 0), True),
                            (("unlike", 1, 1), True), (("unlike", 0, 1), False), (("unlike", 2, 0), False),
                            (("unlike", 0, 2), False), (("twin", "left", 0, 1), False),
                            (("twin", "right", 0, 2), False), (("many", "left", 2), True), (("many", "left", 3), False),
                            (("many", "right", 1), True), (("many", "right", 3), False)]:
            book = Rulebook(3, 2, ((0, (("many", "left", 2), test), "dp", 1),))
            speaker = Speaker(book, (1, 1))
            for x, y in ticks:
                speaker.tick(x, y)
            self.assertEqual(speaker.said() == "dp", holds, test)
        for side, x, y in (("left", (1, 1), (1, 2)), ("right", (1, 2), (1, 1))):
            book = Rulebook(3, 2, ((0, (("twin", side, 0, 1),), "dp", 1),))
            speaker = Speaker(book, (1, 1))
            speaker.tick(x[0], y[0])
            self.assertEqual(speaker.tick(x[1], y[1]), "dp")

    def test_fewer_than_the_window_wait(self):
        chance = rng(640)
        for _ in range(100):
            book = random_book(chance)
            speaker = Speaker(book, (1, 1))
            for _ in range(15):
                speaker.tick(chance.randrange(3), chance.randrange(3))
                for side in ("left", "right"):
                    self.assertLess(len(speaker.waiting(side)), book.window())

    def test_against_a_slow_speaker(self):
        chance = rng(641)
        for _ in range(300):
            book = random_book(chance)
            speaker, slow = Speaker(book, chance.choice(PAIRS)), SlowSpeaker(book)
            for _ in range(20):
                x, y = chance.randrange(3), chance.randrange(3)
                self.assertEqual(speaker.tick(x, y), slow.tick(x, y))
                self.assertEqual((speaker.mark(), speaker.waiting("left"), speaker.waiting("right")), slow.stand())
                self.assertEqual(speaker.said(), slow.said)


class Finishing(unittest.TestCase):
    """[64]: finish, paid, copied, spoken"""

    def refused(self, speaker):
        before = (speaker.said(), speaker.mark(), speaker.paid())
        for call in (lambda: speaker.tick(1, 1), speaker.finish):
            with self.assertRaises(Finished):
                call()
        self.assertEqual((speaker.said(), speaker.mark(), speaker.paid()), before)
        self.assertEqual((speaker.waiting("left"), speaker.waiting("right")), ((), ()))

    def test_nothing_waits(self):
        speaker = Speaker(Rulebook(1, 1, ()), (1, 1))
        self.assertEqual(speaker.finish(), "")
        self.refused(speaker)

    def test_letters_on_both_sides(self):
        speaker = Speaker(Rulebook(4, 1, ()), (2, 3))
        for x, y in ((1, 2), (2, 3), (3, 1)):
            speaker.tick(x, y)
        self.assertEqual((speaker.said(), speaker.waiting("left")), ("", (1, 2, 3)))
        self.assertEqual(speaker.finish(), "dkkp")
        self.assertEqual((speaker.said(), speaker.paid()), ("dkkp", 5))
        self.refused(speaker)

    def test_letters_on_one_side(self):
        speaker = Speaker(Rulebook(3, 1, (rule((), "d"),)), (1, 3))
        speaker.tick(1, 2)
        speaker.tick(1, 2)
        self.assertEqual((speaker.waiting("left"), speaker.waiting("right")), ((), (2, 2)))
        self.assertEqual(speaker.finish(), "pp")
        self.assertEqual((speaker.said(), speaker.paid()), ("ddpp", 8))
        self.refused(speaker)
        speaker = Speaker(Rulebook(3, 1, (rule((), "p"),)), (1, 3))
        speaker.tick(1, 2)
        self.assertEqual((speaker.finish(), speaker.said(), speaker.paid()), ("d", "pd", 4))
        self.refused(speaker)

    def test_the_first_of_several_scripts(self):
        speaker = Speaker(Rulebook(4, 1, ()), (1, 1))
        for x, y in ((1, 2), (2, 1)):
            speaker.tick(x, y)
        self.assertEqual(speaker.finish(), "dkp")

    def test_rules_do_not_count_at_the_end(self):
        speaker = Speaker(Rulebook(3, 1, (rule((("many", "left", 3),), "p"),)), (1, 1))
        speaker.tick(1, 1)
        self.assertEqual(speaker.finish(), "k")

    def test_the_mark_stays(self):
        speaker = Speaker(Rulebook(2, 2, ((0, (), "d", 1),)), (1, 1))
        speaker.tick(1, 1)
        speaker.finish()
        self.assertEqual(speaker.mark(), 1)
        self.refused(speaker)

    def test_paid_by_each_pair(self):
        chance = rng(642)
        for pair in PAIRS:
            book = random_book(chance)
            left, right = equal_texts(chance, 12, 3)
            speaker = Speaker(book, pair)
            for x, y in zip(left, right):
                speaker.tick(x, y)
                self.assertEqual(speaker.paid(), speaker.said().count("d") * pair[0] + speaker.said().count("p") * pair[1])
            speaker.finish()
            prices = Prices({letter: pair for letter in range(3)})
            self.assertEqual(speaker.paid(), slow_price(speaker.said(), left, right, prices))

    def test_copied(self):
        book = Rulebook(3, 2, (KEEP, (0, (("many", "left", 2),), "d", 1)))
        speaker = Speaker(book, (1, 2))
        speaker.tick(1, 2)
        other = speaker.copied()
        self.assertIsInstance(other, Speaker)
        self.assertEqual(other.tick(2, 3), speaker.copied().tick(2, 3))
        self.assertEqual((speaker.said(), speaker.waiting("left"), speaker.mark()), ("", (1,), 0))
        self.assertEqual((other.said(), other.mark()), ("dk", 0))
        other.finish()
        self.refused(other)
        self.refused(other.copied())
        self.assertEqual(speaker.tick(5, 1), "d")
        self.assertEqual(speaker.paid(), 1)

    def test_spoken(self):
        self.assertEqual(spoken(Rulebook(1, 1, ()), (1, 1), (), ()), "")
        self.assertEqual(spoken(Rulebook(1, 1, (KEEP,)), (1, 1), (1, 2), (1, 3)), "kdp")
        chance = rng(643)
        for _ in range(200):
            book, pair = random_book(chance), chance.choice(PAIRS)
            left, right = equal_texts(chance, chance.randint(0, 12), 3)
            script = spoken(book, pair, left, right)
            self.assertEqual(script, slow_spoken(book, pair, left, right))
            self.assertTrue(fits(script, left, right))

    def test_long_texts(self):
        chance = rng(644)
        left, right = equal_texts(chance, 60, 2)
        self.assertTrue(fits(spoken(random_book(chance), (3, 1), left, right), left, right))


if __name__ == "__main__":
    unittest.main()
