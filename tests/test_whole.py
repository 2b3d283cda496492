"""What the document says of several files together."""

import unittest
from fractions import Fraction

from helpers import UNEVEN, random_prices, random_text, rng, slow_least
from saidearly.bills import loss_of_script
from saidearly.book import Book
from saidearly.comparer import Comparer
from saidearly.deltas import applied, cost
from saidearly.errors import EarlyError, TooMany
from saidearly.extras import greatest_extra
from saidearly.gains import GainTable, loss_of
from saidearly.gamejudge import teaser_bound
from saidearly.games import GameTable
from saidearly.grids import least
from saidearly.lossjudge import bound_by
from saidearly.rings import greatest_loss, heights, is_bounded, worst_ring
from saidearly.senders import free_sender
from saidearly.shown import texts_of, texts_round
from saidearly.streams import Writer, read, written
from saidearly.teaser import tease
from saidearly.tips import alike
from saidearly.verdicts import is_free
from saidearly.versus import dearer
from saidearly.waits import WaitTable, waits
from test_gains import priced
from test_ruletext import random_book
from test_speakers import PAIRS, equal_texts
from test_waits import slow_lots

SIZES = ((1, 1), (2, 1), (1, 2), (3, 1), (2, 2))


class Speakers(unittest.TestCase):
    """[8], [73], [74], [78], [84]"""

    def test_no_speaker_does_better_than_the_game_is_worth(self):
        chance = rng(1100)
        met = 0
        while met < 40:
            window, lag = chance.choice(SIZES[:4])
            pair = chance.choice(PAIRS)
            book = random_book(chance, (window, window), 4)
            try:
                num, den, ring = worst_ring(GainTable(book, pair, lag, free_sender()))
            except TooMany:
                continue
            met += 1
            table = GameTable(window, lag, pair)
            self.assertGreaterEqual(Fraction(num, den), Fraction(*table.value()))
            self.assertGreaterEqual(Fraction(num, den), Fraction(sum(pair), window + 1))

    def test_teased_texts(self):
        """Without limits on the letters each speaker loses a drop and a put with each block."""
        chance = rng(1101)
        met = 0
        while met < 30:
            book, pair, lag = random_book(chance, (1, 3), 4), chance.choice(PAIRS), chance.choice([1, 2])
            try:
                table = GainTable(book, pair, lag, free_sender())
                num, den, _ = worst_ring(table)
            except TooMany:
                continue
            met += 1
            self.assertFalse(is_bounded(table))
            self.assertIsNone(greatest_loss(table))
            top = bound_by(table, heights(table, num, den), num, den)
            for blocks in (1, 3, 8):
                left, right, lengths = tease(book, pair, blocks)
                lost = loss_of(book, pair, lag, left, right)
                self.assertGreaterEqual(lost, sum(pair) * blocks)
                self.assertLessEqual(den * lost, top + num * len(left))

    def test_no_less_is_a_bound(self):
        """[8]: for less than the greatest mean the losses pass every such number."""
        chance = rng(1102)
        met = 0
        while met < 20:
            book, pair, lag = random_book(chance, (1, 2), 4), chance.choice(PAIRS), 1
            table = GainTable(book, pair, lag, free_sender())
            num, den, ring = worst_ring(table)
            met += 1
            # A mean so much less that 20 rounds have to show it.
            less = Fraction(num, den) - 1
            self.assertIsNone(heights(table, less.numerator, less.denominator))
            lost = [loss_of(book, pair, lag, *texts_round(table, ring, rounds)) - less * rounds * len(ring)
                    for rounds in (0, 20)]
            self.assertEqual(lost[1] - lost[0], 20 * len(ring))

    def test_losses_and_differences(self):
        chance = rng(1103)
        met = 0
        while met < 30:
            one, other = random_book(chance, (1, 2), 4), random_book(chance, (1, 2), 4)
            pair, lag = chance.choice(PAIRS), chance.choice([1, 2])
            most = dearer(one, other, pair)
            if most is None:
                continue
            met += 1
            for _ in range(20):
                left, right = equal_texts(chance, chance.randint(0, 12), 3)
                self.assertLessEqual(loss_of(one, pair, lag, left, right) - loss_of(other, pair, lag, left, right), most)

    def test_the_game_at_its_best_loses_what_it_is_worth(self):
        for window, lag in SIZES:
            table = GameTable(window, lag, (1, 2))
            num, den = table.value()
            low = teaser_bound(table, table.teaser_heights(), num, den)
            for many in (0, 13, 60):
                left, right, script = table.played(many)
                paid = script.count("d") + 2 * script.count("p")
                lost = paid - slow_least(left, right, priced((1, 2), left, right), ("lag", lag))
                self.assertGreaterEqual(den * lost, low + num * many)


class Comparers(unittest.TestCase):
    """[9], [51], [52], [90]"""

    def test_what_is_fixed_is_free(self):
        chance = rng(1110)
        for _ in range(40):
            pair, lag = chance.choice(PAIRS), chance.choice([1, 2])
            left, right = equal_texts(chance, chance.randint(1, 8), 3)
            comparer = Comparer(priced(pair, left, right), ("lag", lag), None)
            for at in range(len(left)):
                comparer.receive("left", at, left[at:at + 1])
                comparer.receive("right", at, right[at:at + 1])
            comparer.say_free()
            i, j = comparer.reached()
            lots = slow_lots(left, right, pair, lag)
            whole = max(lots.values(), key=len)
            for (a, b), lot in lots.items():
                if lot == whole:
                    self.assertTrue(a <= i and b <= j)
            self.assertLessEqual(len(left) - max(i, j), waits(left, right, pair, lag)[-1])

    def test_waits_of_all_texts_bound_those_of_a_comparer(self):
        chance = rng(1111)
        for lag in (1, 2):
            table = WaitTable(free_sender(), (1, 2), lag)
            self.assertIsNone(table.longest())
            left, right = table.texts(chance.randint(5, 12))
            self.assertEqual(len(waits(left, right, (1, 2), lag)), len(left) + 1)

    def test_books_that_say_free_steps_only(self):
        """[9], with the deltas and the lines of what was said."""
        chance = rng(1112)
        met = 0
        while met < 60:
            left, right = random_text(chance, 7), random_text(chance, 7)
            prices = random_prices(chance)
            promise = chance.choice([("none",), ("lag", 2), ("lag", 4), ("total", 60)])
            whole = least(left, right, prices, promise)
            if whole is None:
                continue
            book = Book(prices, promise, None)
            writer, lines, letters = Writer(), "", 0
            deeds = [("receive", side, at, text[at:at + 1]) for side, text in (("left", left), ("right", right))
                     for at in range(len(text))]
            if promise[0] == "lag":
                deeds = sorted(deeds, key=lambda deed: deed[2])
            try:
                for deed in deeds + [("close", "left", len(left)), ("close", "right", len(right))]:
                    book.do(deed)
                    steps = book.do(("free",))
                    self.assertEqual(book.trial([("claim", ("begins", book.said()), 0)]).claims(),
                                     [(("begins", book.said()), 0)])
                    used = sum(step in "kp" for step in book.said()[:len(book.said()) - len(steps)])
                    text = []
                    for step in steps:
                        if step == "p":
                            text.append(book.heads()[1][used])
                        used += step in "kp"
                    lines += writer.say(steps, tuple(text))
            except EarlyError as error:
                # Letters of one side that come alone may break a lag.
                self.assertEqual(promise[0], "lag", error)
                continue
            met += 1
            lines += writer.close()
            self.assertEqual(read(lines), book.delta())
            self.assertEqual(written(book.delta()), lines)
            self.assertEqual(applied(book.delta(), left), right)
            self.assertEqual(cost(book.delta(), left, prices), whole)
            self.assertEqual(loss_of_script(left, right, prices, promise, book.said()), 0)

    def test_bills_are_losses_in_the_end(self):
        chance = rng(1113)
        for _ in range(40):
            comparer = Comparer(UNEVEN, ("none",), chance.randint(1, 4))
            left, right = random_text(chance, 6), random_text(chance, 6)
            for side, text in (("left", left), ("right", right)):
                for at in range(len(text)):
                    comparer.receive(side, at, text[at:at + 1])
                    comparer.say_forced()
            bill = comparer.bill()[0]
            comparer.close("left", len(left))
            comparer.close("right", len(right))
            self.assertLessEqual(comparer.loss(), bill)
            self.assertEqual(comparer.loss(), comparer.bill()[0])
            self.assertEqual(comparer.loss(), loss_of_script(left, right, UNEVEN, ("none",), comparer.said()))


class Standings(unittest.TestCase):
    """[6], [7] of what a book leads"""

    def test_claims_of_nothing_are_free(self):
        chance = rng(1120)
        met = 0
        for _ in range(80):
            prices = random_prices(chance)
            comparer = Comparer(prices, ("none",), None)
            book = Book(prices, ("none",), None)
            for side in ("left", "right"):
                text = random_text(chance, 5)
                comparer.receive(side, 0, text)
                book.do(("receive", side, 0, text))
            standing = comparer.standing()
            self.assertTrue(alike(standing, comparer.standing()))
            for begin in ("", "k", "d", "p", "kk", "dk"):
                saying = ("begins", begin)
                is_taken = True
                try:
                    book.twin().do(("claim", saying, 0))
                except EarlyError:
                    is_taken = False
                self.assertEqual(is_taken, is_free(standing, saying))
                self.assertEqual(is_taken, greatest_extra(standing, saying)[0] == 0)
                met += is_taken
        self.assertGreater(met, 80)

    def test_texts_of_a_table_cost_the_least_as_its_heights_tell(self):
        """[72]: loss by gains, on texts of arrows that are chosen one after the other."""
        chance = rng(1121)
        for _ in range(20):
            book, pair = random_book(chance, (1, 2), 4), chance.choice(PAIRS)
            table = GainTable(book, pair, 1, free_sender())
            walk, stand = [], 0
            for _ in range(chance.randint(0, 12)):
                walk.append(chance.choice([number for number, arrow in enumerate(table.arrows()) if arrow[0] == stand]))
                stand = table.arrows()[walk[-1]][4]
            left, right = texts_of(table, walk)
            gains = sum(table.arrows()[number][3] for number in walk)
            self.assertEqual(loss_of(book, pair, 1, left, right), gains + table.closing(stand))


if __name__ == "__main__":
    unittest.main()
