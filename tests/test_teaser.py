import itertools
import unittest

from helpers import rng, slow_least, slow_points, slow_price
from saidearly.gains import loss_of
from saidearly.letters import is_text
from saidearly.prices import Prices
from saidearly.rulebooks import Rulebook
from saidearly.ruletext import read_rules
from saidearly.speakers import spoken
from saidearly.teaser import tease
from test_rulebooks import KEEP, rule
from test_ruletext import random_book
from test_speakers import PAIRS, SlowSpeaker


def slow_tease(book, blocks):
    """[78] by its words, with the slow speaker."""
    speaker, left, right, lengths = SlowSpeaker(book), [], [], []
    for k in range(blocks):
        begin = len(left)
        first = None
        while first is None:
            many = len(left) - begin
            left.append(3 * k + many % 2)
            right.append(3 * k + (many + 1) % 2)
            speaker.tick(left[-1], right[-1])
            for step, (i, j) in zip(speaker.said, slow_points(speaker.said)):
                if step == "d" and i >= begin or step == "p" and j >= begin:
                    first = step
                    break
        last = left[-1], right[-1]
        left.append(3 * k + 2 if first == "d" else last[1])
        right.append(last[0] if first == "d" else 3 * k + 2)
        speaker.tick(left[-1], right[-1])
        lengths.append(len(left))
    return tuple(left), tuple(right), lengths


class Teasing(unittest.TestCase):
    """[78]: tease"""

    def check(self, book, pair, blocks):
        left, right, lengths = found = tease(book, pair, blocks)
        self.assertIsInstance(found, tuple)
        self.assertTrue(is_text(left) and is_text(right))
        self.assertIsInstance(lengths, list)
        self.assertEqual(found, slow_tease(book, blocks))
        self.assertEqual(len(lengths), blocks)
        self.assertEqual((len(left), len(right)), (lengths[-1], lengths[-1]))
        for begin, end in zip([0] + lengths, lengths):
            self.assertLessEqual(2, end - begin)
            self.assertLessEqual(end - begin, book.window() + 1)
        # Ahead of the end of each block and of the whole, at the price of a drop and a put for each block.
        prices = Prices({letter: pair for letter in left + right})
        for k, end in enumerate(lengths):
            self.assertLessEqual(slow_least(left[:end], right[:end], prices, ("lag", 1)), sum(pair) * (k + 1))
        script = spoken(book, pair, left, right)
        self.assertGreaterEqual(slow_price(script, left, right, prices), 2 * sum(pair) * blocks)
        for lag in (1, 2):
            self.assertGreaterEqual(loss_of(book, pair, lag, left, right), sum(pair) * blocks)

    def test_books_without_rules(self):
        self.assertEqual(tease(Rulebook(1, 1, ()), (1, 1), 1), ((0, 2), (1, 0), [2]))
        self.assertEqual(tease(Rulebook(1, 1, ()), (1, 1), 2), ((0, 2, 3, 5), (1, 0, 4, 3), [2, 4]))
        self.assertEqual(tease(Rulebook(3, 1, ()), (1, 1), 1), ((0, 1, 0, 2), (1, 0, 1, 0), [4]))
        self.assertEqual(tease(Rulebook(2, 1, ()), (3, 2), 1)[2], [3])

    def test_a_block_that_ends_by_p(self):
        book = Rulebook(1, 1, (rule((), "p"),))
        self.assertEqual(tease(book, (1, 1), 2), ((0, 1, 3, 4), (1, 2, 4, 5), [2, 4]))
        # The first d is of a letter of the block ahead; only the p counts.
        book = Rulebook(3, 1, (rule((("many", "left", 2), ("many", "right", 2)), "dpp"),))
        self.check(book, (1, 2), 3)

    def test_what_waits_from_the_block_ahead_does_not_count(self):
        # With window 4 a letter of the last tick of a block may still wait.
        book = Rulebook(4, 1, ())
        left, right, lengths = tease(book, (1, 1), 2)
        self.assertEqual(lengths[0], 5)
        self.assertEqual(slow_tease(book, 2), (left, right, lengths))
        self.check(book, (1, 1), 2)

    def test_a_speaker_that_keeps_what_crosses(self):
        book = read_rules("window 3 marks 2\n0 if same 0 1 do pk then 1\n1 if same 0 0 do k then 1\n")
        self.check(book, (1, 1), 8)
        book = read_rules("window 3 marks 2\n0 if same 1 0 do dk then 1\n1 if same 0 0 do k then 1\n")
        self.check(book, (2, 1), 8)

    def test_every_pair_window_and_number(self):
        chance = rng(780)
        for pair, window, blocks in itertools.product(PAIRS, (1, 2, 3, 4), (1, 2, 8)):
            self.check(random_book(chance, (window, window)), pair, blocks)

    def test_many_books(self):
        chance = rng(781)
        ends = set()
        for _ in range(300):
            book = random_book(chance)
            blocks = chance.randint(1, 8)
            self.check(book, chance.choice(PAIRS), blocks)
            left, right, lengths = tease(book, (1, 1), blocks)
            for k, end in enumerate(lengths):
                ends.add("d" if left[end - 1] == 3 * k + 2 else "p")
        self.assertEqual(ends, {"d", "p"})

    def test_keeping_books(self):
        for window in (1, 2, 3, 4):
            self.check(Rulebook(window, 1, (KEEP,)), (1, 1), 8)


if __name__ == "__main__":
    unittest.main()
