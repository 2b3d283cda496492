import itertools
import time
import unittest

from helpers import all_scripts, rng, slow_allowed, slow_least, slow_points, slow_price, texts_up_to
from saidearly.errors import NoWait, TooMany
from saidearly.letters import is_text
from saidearly.patterns import pattern_of
from saidearly.prices import Prices
from saidearly.senders import Sender, free_sender
from saidearly.waits import WaitTable, waits
from test_gains import priced, rim_worths
from test_senders import ANY, NEW, TICK, random_sender, slow_places
from test_speakers import PAIRS, equal_texts

FIRST = (0, ((), ()), (0,))
ECHO = Sender(1, 1, ((0, NEW, TICK, 0),), (0,))


def rim_points(t, lag):
    spots = [(i, t) for i in range(t + 1)] + [(t, j) for j in reversed(range(t))]
    return [(i, j) for i, j in spots if abs(i - j) <= lag]


def prices_between(left, right, pair, lag, start):
    """The least prices of allowed steps from a point to all others, point by point."""
    found = {start: 0}
    for i in range(start[0], len(left) + 1):
        for j in range(max(start[1], i - lag), min(len(right), i + lag) + 1):
            ways = [found[(i, j)]] if (i, j) in found else []
            if (i - 1, j) in found:
                ways.append(found[(i - 1, j)] + pair[0])
            if (i, j - 1) in found:
                ways.append(found[(i, j - 1)] + pair[1])
            if (i - 1, j - 1) in found and left[i - 1] == right[j - 1]:
                ways.append(found[(i - 1, j - 1)])
            if ways:
                found[(i, j)] = min(ways)
    return found


def slow_lots(left, right, pair, lag):
    """The lots of all points that have one, of two texts of equal length, by ways from each point."""
    rim = rim_points(len(left), lag)
    first = prices_between(left, right, pair, lag, (0, 0))
    found = {}
    for point in first:
        rest = prices_between(left, right, pair, lag, point)
        lot = tuple(k for k, end in enumerate(rim) if end in rest and first[point] + rest[end] == first[end])
        if lot:
            found[point] = lot
    return found


def slow_wait(left, right, pair, lag):
    """The wait behind the last tick of two texts."""
    whole = tuple(range(len(rim_points(len(left), lag))))
    return min(len(left) - max(point) for point, lot in slow_lots(left, right, pair, lag).items() if lot == whole)


def wait_by_all_scripts(left, right, pair, lag):
    prices = priced(pair, left, right)
    fixed = None
    for i, j in rim_points(len(left), lag):
        scripts = [script for script in all_scripts(left[:i], right[:j]) if slow_allowed(script, ("lag", lag))]
        paid = [slow_price(script, left, right, prices) for script in scripts]
        spots = {point for script, worth in zip(scripts, paid) if worth == min(paid) for point in slow_points(script)}
        fixed = spots if fixed is None else fixed & spots
    return min(len(left) - max(point) for point in fixed)


class SlowTable:
    """The table of [91] by real texts; count is that of which there are too many."""

    def __init__(self, sender, pair, lag):
        self.rule = (sender, pair, lag)
        self.memory = max(lag, sender.span())
        self.stands, self.texts, self.arrows, self.rows, self.steps = [FIRST], [((), ())], [], [], []
        self.count = None
        at = 0
        while at < len(self.stands) and self.count is None:
            self.leave(at)
            at += 1
        if self.count is None:
            self.find_rows()

    def behind(self, texts, arrow):
        """The texts with the letters of an arrow behind them."""
        left, right = texts
        last = left[max(0, len(left) - self.memory):] + right[max(0, len(right) - self.memory):]
        letters = list(dict.fromkeys(last)) + [letter for letter in range(200) if letter not in left + right][:2]
        return left + (letters[arrow[0]],), right + (letters[arrow[1]],)

    def leave(self, at):
        sender, pair, lag = self.rule
        place, pattern, _ = self.stands[at]
        for x, y, to in sender.moves(place, pattern):
            left, right = texts = self.behind(self.texts[at], (x, y))
            worths = rim_worths(left, right, pair, lag)
            corner = slow_least(left, right, priced(pair, left, right), ("lag", lag))
            first = max(0, len(left) - self.memory)
            stand = (to, pattern_of(left[first:], right[first:]), tuple(worth - corner for worth in worths))
            if stand not in self.stands:
                if len(self.stands) == 600:
                    self.count = 601
                    return
                self.stands.append(stand)
                self.texts.append(texts)
            if len(self.arrows) == 8000:
                self.count = 8001
                return
            self.arrows.append((at, x, y, self.stands.index(stand)))

    def family(self, texts, ahead):
        """The family of the last ticks of two texts, behind so many others; None if it is not open."""
        sender, pair, lag = self.rule
        lots = {lot for point, lot in slow_lots(*texts, pair, lag).items() if max(point) > ahead}
        if tuple(range(len(rim_points(len(texts[0]), lag)))) in lots:
            return None
        return tuple(sorted(lots))

    def find_rows(self):
        self.rows = [(stand, ()) for stand in range(len(self.stands))]
        shown = [(texts, len(texts[0])) for texts in self.texts]
        at = 0
        while at < len(self.rows):
            texts, ahead = shown[at]
            for number, (stand, x, y, target) in enumerate(self.arrows):
                if stand == self.rows[at][0]:
                    grown = self.behind(texts, (x, y))
                    family = self.family(grown, ahead)
                    if family is not None:
                        if (target, family) not in self.rows:
                            self.rows.append((target, family))
                            shown.append((grown, ahead))
                        self.steps.append((at, number, self.rows.index((target, family))))
            at += 1

    def ranks(self):
        """By walks of ever more steps; what can go on for as many as there are rows goes on without end."""
        able = [set(range(len(self.rows)))]
        while able[-1] and len(able) <= len(self.rows) + 1:
            able.append({row for row, _, target in self.steps if target in able[-1]})
        endless = able[-1]
        return [None if row in endless else max(many for many, rows in enumerate(able) if row in rows)
                for row in range(len(self.rows))]


class Waits(unittest.TestCase):
    """[90]: waits"""

    def test_empty_texts(self):
        for pair, lag in itertools.product(PAIRS, (1, 2)):
            self.assertEqual(waits((), (), pair, lag), [0])

    def test_some(self):
        # The last letters of both sides may be kept or not, as more of the left text may come, or of the right one.
        for pair in PAIRS:
            self.assertEqual(waits((1,), (1,), pair, 1), [0, 1])
            self.assertEqual(waits((1,), (2,), pair, 1), [0, 1])
            self.assertEqual(waits((1, 2, 3, 4), (1, 2, 3, 4), pair, 1), [0, 1, 1, 1, 1])
            self.assertEqual(waits((1, 2, 3, 4), (1, 2, 3, 4), pair, 2), [0, 1, 2, 2, 2])
            self.assertEqual(waits((1, 2, 3, 4), (5, 6, 7, 8), pair, 2), [0, 1, 2, 2, 2])

    def test_the_lag_is_the_least(self):
        chance = rng(904)
        for lag in (1, 2):
            for _ in range(20):
                left, right = equal_texts(chance, 12, 3)
                for t, wait in enumerate(waits(left, right, chance.choice(PAIRS), lag)):
                    self.assertTrue(min(t, lag) <= wait <= t)

    def test_all_short_texts(self):
        for lag in (1, 2):
            for left, right in itertools.product(texts_up_to(3, 2), repeat=2):
                if len(left) == len(right):
                    for pair in ((1, 1), (1, 2), (3, 1)):
                        self.assertEqual(waits(left, right, pair, lag)[-1], wait_by_all_scripts(left, right, pair, lag))

    def test_all_texts_of_4_ticks(self):
        for left, right in itertools.product(itertools.product(range(2), repeat=4), repeat=2):
            for lag in (1, 2):
                self.assertEqual(waits(left, right, (1, 1), lag)[-1], wait_by_all_scripts(left, right, (1, 1), lag))

    def test_against_ways_from_each_point(self):
        chance = rng(900)
        longest = 0
        for pair, lag in itertools.product(PAIRS, (1, 2)):
            for letters in (2, 3, 5):
                left, right = equal_texts(chance, chance.randint(4, 12), letters)
                found = waits(left, right, pair, lag)
                self.assertEqual(found, [slow_wait(left[:t], right[:t], pair, lag) for t in range(len(left) + 1)])
                longest = max(longest, max(found))
        self.assertGreater(longest, 3)

    def test_rings_beside_the_same_rings_some_letters_on(self):
        chance = rng(901)
        for lag, shift, period in itertools.product((1, 2), (1, 2, 3), (2, 3, 5)):
            ring = tuple(range(period)) * 20
            left, right = ring[:20], ring[shift:20 + shift]
            pair = chance.choice(PAIRS)
            found = waits(left, right, pair, lag)
            for t in (5, 11, 20):
                self.assertEqual(found[t], slow_wait(left[:t], right[:t], pair, lag))
        # So the waits may grow without end.
        ring = (0, 1) * 30
        self.assertEqual(waits(ring, ring[1:] + ring[:1], (1, 1), 1), list(range(61)))

    def test_60_letters(self):
        chance = rng(902)
        for lag in (1, 2):
            for letters in (2, 6):
                left, right = equal_texts(chance, 60, letters)
                found = waits(left, right, (1, 2), lag)
                self.assertEqual(len(found), 61)
                for t in (30, 60):
                    self.assertEqual(found[t], slow_wait(left[:t], right[:t], (1, 2), lag))

    def test_beginnings(self):
        chance = rng(903)
        for _ in range(30):
            left, right = equal_texts(chance, 20, 3)
            many = chance.randint(0, 20)
            pair, lag = chance.choice(PAIRS), chance.choice([1, 2])
            self.assertEqual(waits(left[:many], right[:many], pair, lag), waits(left, right, pair, lag)[:many + 1])

    def test_the_letters_do_not_matter_but_by_their_likes(self):
        left, right = (10 ** 9, 7, 0, 7), (7, 0, 7, 10 ** 9)
        self.assertEqual(waits(left, right, (2, 1), 2), waits((0, 1, 2, 1), (1, 2, 1, 0), (2, 1), 2))

    def test_new_lists(self):
        waits((1,), (2,), (1, 1), 1).clear()
        self.assertEqual(waits((1,), (2,), (1, 1), 1), [0, 1])


class Tables(unittest.TestCase):
    """[91], [92]: the lists"""

    def check(self, sender, pair, lag):
        slow = SlowTable(sender, pair, lag)
        if slow.count is not None:
            with self.assertRaises(TooMany) as caught:
                WaitTable(sender, pair, lag)
            self.assertEqual(caught.exception.count, slow.count)
            return None
        table = WaitTable(sender, pair, lag)
        self.assertEqual(table.stands(), slow.stands)
        self.assertEqual(table.arrows(), slow.arrows)
        self.assertEqual(table.rows(), slow.rows)
        self.assertEqual(table.steps(), slow.steps)
        self.assertEqual(table.steps(), sorted(table.steps()))
        self.assertEqual(table.ranks(), slow.ranks())
        self.assertEqual(table.longest(), None if None in slow.ranks() else max(slow.ranks()))
        return table

    def test_a_sender_that_sends_nothing(self):
        table = self.check(Sender(1, 1, ((0, ("left", 1), ANY, 0),), ()), (1, 1), 1)
        self.assertEqual((table.stands(), table.arrows(), table.rows(), table.steps()), ([FIRST], [], [(0, ())], []))
        self.assertEqual((table.ranks(), table.longest(), table.texts(0)), ([0], 0, ((), ())))

    def test_equal_letters(self):
        table = self.check(ECHO, (2, 3), 1)
        self.assertEqual(table.stands(), [FIRST, (0, ((0,), (0,)), (3, 0, 2))])
        self.assertEqual(table.arrows(), [(0, 0, 0, 1), (1, 1, 1, 1)])
        self.assertEqual(table.rows(), [(0, ()), (1, ()), (1, ((0,), (1,), (2,)))])
        self.assertEqual((table.steps(), table.ranks(), table.longest()), ([(0, 0, 2), (1, 1, 2)], [1, 1, 0], 1))

    def test_a_first_step(self):
        # One tick of unlike letters: the corner comes through both points beside it, these come from (0, 0) alone.
        table = self.check(Sender(2, 1, ((0, NEW, NEW, 1),), ()), (1, 2), 1)
        self.assertEqual(table.stands()[1], (1, ((0,), (1,)), (-1, 0, -2)))
        self.assertEqual(table.rows(), [(0, ()), (1, ()), (1, ((0, 1), (1,), (1, 2)))])
        self.assertEqual((table.steps(), table.ranks(), table.longest()), ([(0, 0, 2)], [1, 0, 0], 1))
        self.assertEqual(table.texts(1), ((0,), (1,)))

    def test_all_pairs_with_the_free_sender(self):
        for pair in PAIRS:
            table = self.check(free_sender(), pair, 1)
            self.assertIsNone(table.longest())

    def test_random_senders(self):
        chance = rng(910)
        met = 0
        ranked = set()
        while met < 60:
            sender = random_sender(chance, chance.choice([1, 3, 6]), 4, chance.choice([3, 5, 12]))
            pair, lag = chance.choice(PAIRS), chance.choice([1, 2])
            try:
                table = WaitTable(sender, pair, lag)
            except TooMany:
                continue
            if len(table.rows()) > 60:
                continue
            met += 1
            self.check(sender, pair, lag)
            ranked.add(table.longest())
        self.assertTrue({None, 0, 1, 2} <= ranked, ranked)

    def test_what_is_remembered(self):
        """The greater one of lag and span."""
        for lag, span in itertools.product((1, 2), (1, 2, 3, 4)):
            table = self.check(Sender(1, span, ((0, NEW, TICK, 0),), ()), (1, 1), lag)
            self.assertEqual(max(len(stand[1][0]) for stand in table.stands()), max(lag, span))

    def test_too_many(self):
        ring = tuple((at, ANY, ANY, (at + 1) % 4) for at in range(4))
        for sender, lag, count in (
                (Sender(1, 4, ((0, ANY, ANY, 0),), (0,)), 1, 601),
                (Sender(1, 3, ((0, ANY, ANY, 0),), (0,)), 2, 601),
                (Sender(2, 3, ((0, ANY, ANY, 1), (1, ANY, ANY, 0)), ()), 1, 8001),
                (Sender(5, 1, ring + ((0, ANY, NEW, 4), (4, ANY, ANY, 0)), ()), 2, 8001),
                (Sender(5, 1, ring + ((0, ANY, TICK, 4), (4, ANY, ANY, 0)), ()), 2, 2001)):
            begun = time.process_time()
            with self.assertRaises(TooMany) as caught:
                WaitTable(sender, (1, 1), lag)
            self.assertEqual(caught.exception.count, count)
            self.assertLess(time.process_time() - begun, 30)

    def test_which_cause_comes_first(self):
        for sender in (Sender(1, 4, ((0, ANY, ANY, 0),), ()), Sender(2, 3, ((0, ANY, ANY, 1), (1, ANY, ANY, 0)), ())):
            self.assertIsNone(self.check(sender, (1, 1), 1))

    def test_many_but_not_too_many(self):
        table = WaitTable(Sender(4, 1, tuple((at, ANY, ANY, (at + 1) % 4) for at in range(4)), ()), (1, 1), 2)
        self.assertEqual((len(table.stands()), len(table.arrows()), len(table.rows())), (531, 6793, 1857))

    def test_what_is_returned_is_new(self):
        table = WaitTable(free_sender(), (1, 1), 1)
        for told in (table.stands, table.arrows, table.rows, table.steps, table.ranks):
            before = list(told())
            told().clear()
            self.assertEqual(told(), before)


class Longest(unittest.TestCase):
    """[92]: longest, texts"""

    def check_texts(self, sender, pair, lag, table, wait):
        left, right = found = table.texts(wait)
        self.assertIsInstance(found, tuple)
        self.assertTrue(is_text(left) and is_text(right))
        self.assertEqual(len(left), len(right))
        self.assertLessEqual(len(left), 700)
        self.assertTrue(slow_places(sender, left, right))
        self.assertGreaterEqual(waits(left, right, pair, lag)[-1], wait)
        if len(left) <= 12:
            self.assertGreaterEqual(slow_wait(left, right, pair, lag), wait)

    def test_the_greatest_wait_of_all_texts(self):
        """What the sender can begin waits so long and no longer."""
        chance = rng(920)
        met = 0
        numbers = set()
        while met < 50:
            sender = random_sender(chance, chance.choice([1, 3, 6]), 4, chance.choice([3, 5]))
            pair, lag = chance.choice(PAIRS), chance.choice([1, 2])
            try:
                table = WaitTable(sender, pair, lag)
            except TooMany:
                continue
            longest = table.longest()
            if longest is None:
                continue
            met += 1
            numbers.add(longest)
            for wait in range(longest + 1):
                self.check_texts(sender, pair, lag, table, wait)
            for wait in {longest + 1, 40}:
                with self.assertRaises(NoWait) as caught:
                    table.texts(wait)
                self.assertEqual(caught.exception.wait, wait)
            for _ in range(6):
                left, right = (), ()
                for _ in range(10):
                    ways = [(x, y) for x in range(6) for y in range(6)
                            if slow_places(sender, left + (x,), right + (y,))]
                    if not ways:
                        break
                    x, y = chance.choice(ways)
                    left, right = left + (x,), right + (y,)
                self.assertLessEqual(max(waits(left, right, pair, lag)), longest)
        self.assertTrue(numbers >= {0, 1, 2}, numbers)

    def test_no_number_bounds_the_waits(self):
        chance = rng(921)
        met = 0
        while met < 30:
            sender = free_sender() if met < 4 else random_sender(chance, 4, 3, 5)
            pair, lag = chance.choice(PAIRS), chance.choice([1, 2])
            try:
                table = WaitTable(sender, pair, lag)
            except TooMany:
                continue
            if table.longest() is not None:
                continue
            met += 1
            for wait in (0, 1, 2, 7, 40):
                self.check_texts(sender, pair, lag, table, wait)

    def test_texts_far_from_the_first_stand(self):
        # Only behind five ticks can letters be unlike.
        arrows = tuple((at, NEW, TICK, at + 1) for at in range(5)) + ((5, ANY, ANY, 5),)
        sender = Sender(6, 1, arrows, ())
        table = WaitTable(sender, (1, 2), 1)
        self.assertIsNone(table.longest())
        for wait in (0, 1, 40):
            self.check_texts(sender, (1, 2), 1, table, wait)
        self.assertEqual(table.texts(0), ((), ()))
        self.assertEqual(len(table.texts(3)[0]), 8)

    def test_ends_do_not_matter(self):
        one = Sender(2, 1, ((0, NEW, NEW, 1), (1, ("right", 1), NEW, 0)), ())
        other = Sender(2, 1, ((0, NEW, NEW, 1), (1, ("right", 1), NEW, 0)), (0, 1))
        tables = WaitTable(one, (1, 1), 2), WaitTable(other, (1, 1), 2)
        self.assertEqual(tables[0].ranks(), tables[1].ranks())
        self.assertEqual(tables[0].rows(), tables[1].rows())


if __name__ == "__main__":
    unittest.main()
