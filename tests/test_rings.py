import time
import unittest
from fractions import Fraction
from math import gcd

from helpers import Graph, is_walk, random_graph, rng, slow_rings, walk_gain
from saidearly.errors import TooMany
from saidearly.gains import GainTable, loss_of
from saidearly.rings import greatest_loss, heights, is_bounded, worst_ring
from saidearly.rulebooks import Rulebook
from saidearly.senders import Sender, free_sender
from saidearly.shown import texts_of
from saidearly.versus import VersusTable
from test_rulebooks import KEEP
from test_ruletext import random_book
from test_senders import ANY, NEW, TICK, random_sender, sent
from test_speakers import PAIRS, equal_texts

LIKE = Rulebook(1, 1, (KEEP,))
ONCE = Sender(3, 1, ((0, ANY, ANY, 1), (1, NEW, ANY, 2)), (2,))


def slow_heights(table, num, den):
    """The greatest sums of walks to each stand, of at most as many arrows as there are stands."""
    many = len(table.stands())
    sums = [{0: 0}]
    for _ in range(many):
        row = {}
        for stand, _, _, gain, target in table.arrows():
            if stand in sums[-1]:
                row[target] = max(row.get(target, -10 ** 20), sums[-1][stand] + den * gain - num)
        sums.append(row)
    return [max(row[stand] for row in sums if stand in row) for stand in range(many)]


def means(table):
    return [Fraction(walk_gain(table, ring), len(ring)) for ring in slow_rings(table)]


def random_table(chance):
    """Some small table of a speaker and a sender, or of two speakers."""
    while True:
        try:
            if chance.random() < 0.3:
                table = VersusTable(random_book(chance, (1, 2), 4), random_book(chance, (1, 2), 4), chance.choice(PAIRS))
            else:
                table = GainTable(random_book(chance, (1, 3), 4), chance.choice(PAIRS), chance.choice([1, 2]),
                                  random_sender(chance, 3, 2, 4))
        except TooMany:
            continue
        if len(table.stands()) <= 40:
            return table


class Worst(unittest.TestCase):
    """[73]: worst_ring, is_bounded"""

    def check(self, table, wanted):
        """wanted is the greatest mean, or None."""
        found = worst_ring(table)
        if wanted is None:
            self.assertIsNone(found)
            self.assertTrue(is_bounded(table))
            return
        num, den, ring = found
        self.assertEqual(Fraction(num, den), wanted)
        self.assertEqual(gcd(num, den), 1)
        self.assertGreaterEqual(den, 1)
        self.assertIsInstance(ring, list)
        self.assertTrue(ring and is_walk(table, ring))
        begins = [table.arrows()[number][0] for number in ring]
        self.assertEqual(table.arrows()[ring[-1]][4], begins[0])
        self.assertEqual(len(set(begins)), len(begins))
        self.assertEqual(Fraction(walk_gain(table, ring), len(ring)), wanted)
        self.assertIs(is_bounded(table), wanted <= 0)

    def test_no_ring(self):
        self.check(Graph(1, []), None)
        self.check(Graph(3, [(0, 5, 1), (0, 9, 2), (1, 2, 2)]), None)
        self.check(GainTable(LIKE, (1, 1), 1, Sender(1, 1, ((0, ("left", 1), ANY, 0),), ())), None)
        self.check(GainTable(LIKE, (1, 2), 2, ONCE), None)

    def test_rings_of_one_stand(self):
        for gain in (-3, 0, 4):
            self.check(Graph(1, [(0, gain, 0)]), gain)
        self.check(Graph(2, [(0, 1, 0), (0, 7, 1), (1, 2, 1)]), 2)
        # Two arrows between the same stands.
        self.check(Graph(1, [(0, 1, 0), (0, 5, 0), (0, 2, 0)]), 5)

    def test_above_and_below_0(self):
        self.check(Graph(2, [(0, 1, 1), (1, 0, 0)]), Fraction(1, 2))
        self.check(Graph(2, [(0, -1, 1), (1, 1, 0)]), 0)
        self.check(Graph(2, [(0, -2, 1), (1, 1, 0)]), Fraction(-1, 2))
        self.check(Graph(3, [(0, 4, 1), (1, -3, 2), (2, 1, 0)]), Fraction(2, 3))
        self.check(Graph(4, [(0, -4, 1), (1, -4, 2), (2, -1, 3), (3, -1, 0)]), Fraction(-5, 2))

    def test_several_rings_of_the_same_mean(self):
        self.check(Graph(3, [(0, 1, 1), (1, 3, 0), (0, 2, 0), (1, 2, 2), (2, 2, 1)]), 2)
        self.check(Graph(4, [(0, 9, 1), (1, 0, 1), (0, -9, 2), (2, 0, 2), (2, 3, 3), (3, -3, 2)]), 0)

    def test_a_ring_behind_others(self):
        self.check(Graph(5, [(0, 0, 0), (0, -50, 1), (1, 0, 2), (2, 0, 1), (2, -50, 3), (3, 1, 4), (4, 0, 3)]),
                   Fraction(1, 2))

    def test_against_all_rings(self):
        chance = rng(730)
        seen = set()
        for _ in range(300):
            table = random_graph(chance)
            wanted = max(means(table), default=None)
            seen.add(wanted if wanted is None else (wanted > 0) - (wanted < 0))
            self.check(table, wanted)
        self.assertEqual(seen, {None, -1, 0, 1})

    def test_tables_of_speakers(self):
        """[8]: s is the greatest mean exactly if there are heights for it and for nothing less."""
        chance = rng(731)
        for _ in range(60):
            table = random_table(chance)
            found = worst_ring(table)
            if found is None:
                self.assertIsNotNone(heights(table, -10 ** 6, 1))
                continue
            num, den, _ = found
            self.check(table, Fraction(num, den))
            self.assertIsNotNone(heights(table, num, den))
            self.assertIsNone(heights(table, 1000 * num - 1, 1000 * den) if den == 1 else heights(table, num - 1, den))

    def test_what_speakers_lose(self):
        # A book that drops and puts everything loses as much as the least saves, and no tick saves more.
        for pair in PAIRS:
            self.assertEqual(worst_ring(GainTable(Rulebook(1, 1, ()), pair, 1, free_sender()))[:2], (sum(pair), 1))
            self.assertEqual(worst_ring(GainTable(LIKE, pair, 1, Sender(1, 1, ((0, NEW, TICK, 0),), ())))[:2], (0, 1))

    def test_new_lists(self):
        table = Graph(1, [(0, 3, 0)])
        worst_ring(table)[2].clear()
        self.assertEqual(worst_ring(table), (3, 1, [0]))


class Bounds(unittest.TestCase):
    """[73], [74]: TooMany"""

    def refused(self, table, count):
        for call in (worst_ring, is_bounded, lambda told: heights(told, 0, 1), greatest_loss):
            with self.assertRaises(TooMany) as caught:
                call(table)
            self.assertEqual(caught.exception.count, count)

    def test_just_not_too_many(self):
        table = Graph(600, [(at, 1, (at + 1) % 600) for at in range(600)] + [(0, 0, 0)] * 400)
        begun = time.process_time()
        self.assertEqual(worst_ring(table)[:2], (1, 1))
        self.assertFalse(is_bounded(table))
        self.assertIsNone(heights(table, 999, 1000))
        self.assertEqual(heights(table, 1, 1), [0] * 600)
        self.assertIsNone(greatest_loss(table))
        self.assertLess(time.process_time() - begun, 30)

    def test_one_more(self):
        self.refused(Graph(600, [(at, 1, (at + 1) % 600) for at in range(600)] + [(0, 0, 0)] * 401), 600600)
        # 437 * 1373
        self.refused(Graph(437, [(0, 0, at) for at in range(1, 437)] + [(0, 1, 0)] * 937), 600001)

    def test_a_real_table(self):
        table = VersusTable(Rulebook(4, 1, ()), Rulebook(1, 1, ()), (1, 1))
        self.refused(table, len(table.stands()) * len(table.arrows()))

    def test_some_thousands_of_arrows(self):
        begun = time.process_time()
        table = GainTable(Rulebook(1, 1, ()), (1, 2), 2, free_sender())
        self.assertGreater(len(table.arrows()), 1500)
        num, den, _ = worst_ring(table)
        self.assertIsNotNone(heights(table, num, den))
        chance = rng(732)
        many = [(chance.randrange(70), chance.randint(-9, 9), chance.randrange(70)) for _ in range(8000)]
        table = Graph(70, many + [(0, 0, at) for at in range(1, 70)])
        num, den, ring = worst_ring(table)
        self.assertEqual(Fraction(walk_gain(table, ring), len(ring)), Fraction(num, den))
        self.assertIsNotNone(heights(table, num, den))
        self.assertIsNone(heights(table, 1000 * num // den - 1, 1000))
        self.assertLess(time.process_time() - begun, 30)


class Heights(unittest.TestCase):
    """[74]: heights"""

    def test_no_arrows(self):
        self.assertEqual(heights(Graph(1, []), 5, 3), [0])
        self.assertEqual(heights(Graph(1, []), -10 ** 6, 1), [0])

    def test_at_and_about_the_greatest_mean(self):
        table = Graph(2, [(0, 3, 1), (1, 0, 0)])
        self.assertEqual(heights(table, 3, 2), [0, 3])
        self.assertEqual(heights(table, 1500, 1000), [0, 1500])
        self.assertIsNone(heights(table, 1499, 1000))
        self.assertEqual(heights(table, 1501, 1000), [0, 1499])
        self.assertEqual(heights(table, 10 ** 6, 1), [0, 3 - 10 ** 6])
        self.assertEqual(heights(table, 10 ** 6, 1000), [0, 3000 - 10 ** 6])
        self.assertIsNone(heights(table, -10 ** 6, 1000))
        self.assertIsNone(heights(table, 1, 1))
        self.assertEqual(heights(table, 2, 1), [0, 1])

    def test_below_0(self):
        table = Graph(2, [(0, -3, 1), (1, 0, 0)])
        self.assertEqual(heights(table, -3, 2), [0, -3])
        self.assertIsNone(heights(table, -1501, 1000))
        self.assertEqual(heights(table, -1499, 1000), [0, -1501])
        # Without a ring nothing is too low.
        self.assertEqual(heights(Graph(2, [(0, -3, 1)]), -10 ** 6, 1000), [0, -3000 + 10 ** 6])

    def test_against_all_walks(self):
        chance = rng(740)
        refused = 0
        for _ in range(400):
            table = random_graph(chance)
            greatest = max(means(table), default=None)
            num, den = chance.randint(-6, 6), chance.randint(1, 4)
            if greatest is not None and chance.random() < 0.5:
                num, den = greatest.numerator, greatest.denominator
            if greatest is not None and greatest > Fraction(num, den):
                refused += 1
                self.assertIsNone(heights(table, num, den))
            else:
                self.assertEqual(heights(table, num, den), slow_heights(table, num, den))
        self.assertGreater(refused, 50)


class Greatest(unittest.TestCase):
    """[74], [72]: greatest_loss"""

    def test_a_ring_that_gains(self):
        self.assertIsNone(greatest_loss(Graph(1, [(0, 1, 0)])))
        self.assertIsNone(greatest_loss(GainTable(Rulebook(1, 1, ()), (1, 1), 1, free_sender())))

    def test_the_empty_walk(self):
        self.assertEqual(greatest_loss(Graph(1, [(0, -1, 0)])), (0, []))
        self.assertEqual(greatest_loss(Graph(2, [(0, -5, 1), (1, 5, 0)], [2, 6])), (2, []))

    def test_the_closing_counts(self):
        self.assertEqual(greatest_loss(Graph(3, [(0, 4, 1), (1, -3, 2)], [0, 1, 5])), (6, [0, 1]))
        self.assertEqual(greatest_loss(Graph(3, [(0, 4, 1), (1, -3, 2)], [0, 5, 5])), (9, [0]))

    def test_rings_of_0(self):
        table = Graph(3, [(0, 0, 0), (0, 2, 1), (1, 0, 1), (1, -2, 0), (1, 1, 2), (2, -1, 1)])
        number, walk = greatest_loss(table)
        self.assertEqual((number, walk_gain(table, walk)), (3, 3))
        self.assertTrue(is_walk(table, walk, 0))

    def test_against_all_walks(self):
        chance = rng(741)
        met = 0
        for _ in range(500):
            table = random_graph(chance, 6, 5, 3)
            greatest = max(means(table), default=None)
            if greatest is not None and greatest > 0:
                self.assertIsNone(greatest_loss(table))
                continue
            met += 1
            number, walk = greatest_loss(table)
            self.assertEqual(number, max(row + table.closing(at)
                                         for at, row in enumerate(slow_heights(table, 0, 1))))
            self.assertTrue(is_walk(table, walk, 0))
            end = table.arrows()[walk[-1]][4] if walk else 0
            self.assertEqual(walk_gain(table, walk) + table.closing(end), number)
        self.assertGreater(met, 100)

    def test_of_real_texts(self):
        """The texts of the walk lose so much, and no others lose more."""
        chance = rng(742)
        met = 0
        while met < 12:
            book, pair, lag = random_book(chance, (1, 3), 4), chance.choice(PAIRS), chance.choice([1, 2])
            sender = chance.choice([ONCE, random_sender(chance, 3, 2, 3)])
            try:
                table = GainTable(book, pair, lag, sender)
                found = greatest_loss(table)
            except TooMany:
                continue
            if found is None:
                continue
            met += 1
            number, walk = found
            self.assertEqual(loss_of(book, pair, lag, *texts_of(table, walk)), number)
            for _ in range(20):
                left, right, _ = sent(chance, sender, chance.randint(0, 8))
                self.assertLessEqual(loss_of(book, pair, lag, left, right), number)

    def test_every_height_bounds_losses(self):
        """[8]: r + s * t, with the greatest mean for s."""
        chance = rng(743)
        for _ in range(20):
            book, pair, lag = random_book(chance, (1, 2), 4), chance.choice(PAIRS), 1
            table = GainTable(book, pair, lag, free_sender())
            num, den, _ = worst_ring(table)
            rows = heights(table, num, den)
            top = max(row + den * table.closing(at) for at, row in enumerate(rows))
            for _ in range(20):
                left, right = equal_texts(chance, chance.randint(0, 20), 3)
                self.assertLessEqual(den * loss_of(book, pair, lag, left, right), top + num * len(left))


if __name__ == "__main__":
    unittest.main()
