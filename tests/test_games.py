import itertools
import unittest
from fractions import Fraction
from math import gcd

from helpers import odd_values, rng, slow_least
from saidearly.errors import NoStand, NoTick, TooMany, Unsettled, Wrong
from saidearly.games import GameTable, _solution_of
from saidearly.letters import is_text
from saidearly.patterns import pattern_of, ticks
from saidearly.scripts import fits
from test_gains import priced, rim_worths
from test_speakers import PAIRS, slow_rest

FIRST = ((0, 0), ((), ()), (0,))
NONE = ("none",)
# All games that have no more than 600 stands; of the greater ones some are told below.
SIZES = {(1, 1): (7, 47), (2, 1): (25, 728), (1, 2): (135, 1711), (3, 1): (234, 20031), (2, 2): (537, 27352)}


def price_of(script, pair):
    return script.count("d") * pair[0] + script.count("p") * pair[1]


class SlowGame:
    """The game of [83] by real texts; count is 601 if there are too many stands."""

    def __init__(self, window, lag, pair):
        self.rule = (window, lag, pair)
        self.memory = max(window - 1, lag)
        self.stands, self.texts, self.leads, self.count = [FIRST], [((), ())], [], None
        while len(self.leads) < len(self.stands) and self.count is None:
            self.leave(len(self.leads))

    def leave(self, at):
        window, lag, pair = self.rule
        left, right = self.texts[at]
        waits, numbers, _ = self.stands[at]
        prices = priced(pair, range(300))
        first = max(0, len(left) - self.memory)
        letters = list(dict.fromkeys(left[first:] + right[first:]))
        letters += [letter for letter in range(200) if letter not in left + right][:2]
        before = slow_least(left, right, prices, ("lag", lag))
        self.leads.append({})
        for x, y in ticks(numbers):
            grown = left + (letters[x],), right + (letters[y],)
            start = max(0, len(left) + 1 - self.memory)
            corner = slow_least(*grown, prices, ("lag", lag))
            heights = tuple(worth - corner for worth in rim_worths(*grown, pair, lag))
            pattern = pattern_of(grown[0][start:], grown[1][start:])
            on_left, on_right = grown[0][len(left) - waits[0]:], grown[1][len(right) - waits[1]:]
            moves = []
            for a, b in itertools.product(range(len(on_left) + 1), range(len(on_right) + 1)):
                behind = (len(on_left) - a, len(on_right) - b), pattern, heights
                if max(behind[0]) >= window:
                    continue
                if behind not in self.stands:
                    if len(self.stands) == 600:
                        self.count = 601
                        return
                    self.stands.append(behind)
                    self.texts.append(grown)
                gain = slow_least(on_left[:a], on_right[:b], prices, NONE) - corner + before
                moves.append(((a, b), gain, self.stands.index(behind)))
            self.leads[at][(x, y)] = moves


def is_table(table, rows, num, den, of_speaker):
    """Whether rows are as [84] tells, move by move."""
    for stand, row in enumerate(rows):
        kept = []
        for tick in table.ticks(stand):
            worths = [den * gain - num + rows[target] for _, gain, target in table.moves(stand, tick)]
            kept.append(any(row >= worth for worth in worths) if of_speaker else all(row <= worth for worth in worths))
        if not (all(kept) if of_speaker else any(kept)):
            return False
    return True


class Making(unittest.TestCase):
    """[83]"""

    def test_sizes(self):
        for (window, lag), (stands, moves) in SIZES.items():
            for pair in PAIRS:
                table = GameTable(window, lag, pair)
                self.assertEqual(len(table.stands()), stands)
                self.assertEqual(table.stands()[0], FIRST)
                many = sum(len(table.moves(at, tick)) for at in range(stands) for tick in table.ticks(at))
                self.assertEqual(many, moves)

    def test_too_many(self):
        for window, lag in itertools.product((1, 2, 3, 4), (1, 2)):
            if (window, lag) not in SIZES:
                for pair in PAIRS:
                    with self.assertRaises(TooMany) as caught:
                        GameTable(window, lag, pair)
                    self.assertEqual(caught.exception.count, 601)

    def test_against_real_texts(self):
        for window, lag, pairs in ((1, 1, PAIRS), (2, 1, PAIRS), (1, 2, [(1, 2), (3, 1)])):
            for pair in pairs:
                slow = SlowGame(window, lag, pair)
                table = GameTable(window, lag, pair)
                self.assertEqual(table.stands(), slow.stands)
                for at in range(len(slow.stands)):
                    self.assertEqual(table.ticks(at), list(slow.leads[at]))
                    self.assertEqual(table.ticks(at), sorted(table.ticks(at)))
                    for tick in table.ticks(at):
                        self.assertEqual(table.moves(at, tick), slow.leads[at][tick])
                        self.assertEqual(table.moves(at, tick), sorted(table.moves(at, tick)))

    def test_window_1(self):
        """All letters are used at once."""
        table = GameTable(1, 1, (1, 2))
        self.assertEqual((table.ticks(0), table.moves(0, (0, 0)), table.moves(0, (0, 1))),
                         ([(0, 0), (0, 1)], [((1, 1), 0, 1)], [((1, 1), 0, 2)]))
        self.assertEqual(table.stands()[1:3], [((0, 0), ((0,), (0,)), (2, 0, 1)), ((0, 0), ((0,), (1,)), (-1, 0, -2))])

    def test_moves_of_window_2(self):
        table = GameTable(2, 1, (1, 2))
        self.assertEqual(table.moves(0, (0, 1)), [((0, 0), -3, table.moves(0, (0, 1))[0][2]),
                                                  ((0, 1), -1, table.moves(0, (0, 1))[1][2]),
                                                  ((1, 0), -2, table.moves(0, (0, 1))[2][2]),
                                                  ((1, 1), 0, table.moves(0, (0, 1))[3][2])])
        self.assertEqual([table.stands()[target][0] for _, _, target in table.moves(0, (0, 1))],
                         [(1, 1), (1, 0), (0, 1), (0, 0)])
        # Where a letter waits on both sides, one of each has to be used.
        at = [number for number, stand in enumerate(table.stands()) if stand[0] == (1, 1)][0]
        for tick in table.ticks(at):
            self.assertEqual([move for move, _, _ in table.moves(at, tick)], [(1, 1), (1, 2), (2, 1), (2, 2)])

    def test_closings(self):
        for window, lag in SIZES:
            pair = (2, 3)
            table = GameTable(window, lag, pair)
            for at, (waits, (left, right), _) in enumerate(table.stands()):
                script = slow_rest(left[len(left) - waits[0]:], right[len(right) - waits[1]:], pair)
                self.assertEqual(table.closing(at), price_of(script, pair))

    def test_wrong_arguments(self):
        def refused(place, *arguments):
            with self.assertRaises(Wrong) as caught:
                GameTable(*arguments)
            self.assertEqual(caught.exception.place, place)

        for thing in odd_values() + [5, 3, 2, (1, 4), (0, 1), (True, 1), [1, 1], (1,), "1"]:
            if not (isinstance(thing, int) and not isinstance(thing, bool) and 1 <= thing <= 4):
                refused(0, thing, 1, (1, 1))
                refused(0, thing, thing, thing)
            if not (isinstance(thing, int) and not isinstance(thing, bool) and 1 <= thing <= 2):
                refused(1, 4, thing, (1, 1))
                refused(1, 1, thing, None)
            # Also where the game would be too large.
            refused(2, 4, 2, thing)

    def test_what_is_returned_is_new(self):
        table = GameTable(2, 1, (1, 1))
        for told in (table.stands, lambda: table.ticks(1), lambda: table.moves(0, (0, 0)), table.speaker_heights,
                     table.teaser_heights):
            before = list(told())
            told().clear()
            self.assertEqual(told(), before)


class Refusing(unittest.TestCase):
    """[83], [84]: NoStand, NoTick"""

    def test_no_stand(self):
        table = GameTable(1, 1, (1, 1))
        calls = [table.ticks, table.closing, table.best_tick, lambda thing: table.moves(thing, None),
                 lambda thing: table.best_move(thing, None), lambda thing: table.moves(thing, (0, 0)),
                 lambda thing: table.best_move(thing, (0, 0))]
        for thing in [-1, 7, 10 ** 39, True, False, None, "0", (0,), [0]] + odd_values():
            if isinstance(thing, int) and not isinstance(thing, bool) and 0 <= thing < 7:
                continue
            for call in calls:
                with self.assertRaises(NoStand) as caught:
                    call(thing)
                self.assertIs(caught.exception.stand, thing)

    def test_no_tick(self):
        table = GameTable(2, 1, (1, 1))
        for stand in (0, 1, 24):
            for thing in [[0, 0], (0,), (0, 0, 0), (0, -1), (-1, 0), (0, 9), (9, 0), (True, 1), (0, False), "00", None,
                          (None, 0), ((0,), 0), [(0, 0)]] + odd_values():
                if thing == (0, 0) and isinstance(thing, tuple) and thing[0] is not False and thing[1] is not False:
                    continue
                for call in (table.moves, table.best_move):
                    with self.assertRaises(NoTick) as caught:
                        call(stand, thing)
                    self.assertIs(caught.exception.thing, thing)
            for tick in itertools.product(range(7), repeat=2):
                if tick not in table.ticks(stand):
                    with self.assertRaises(NoTick):
                        table.moves(stand, tick)


class Values(unittest.TestCase):
    """[84]: value, the tables"""

    def test_lag_1(self):
        for pair in PAIRS:
            for window, parts in ((1, 1), (2, 3), (3, 4)):
                wanted = Fraction(sum(pair), parts)
                self.assertEqual(GameTable(window, 1, pair).value(), (wanted.numerator, wanted.denominator))

    def test_lag_2(self):
        for pair in PAIRS:
            for window in (1, 2):
                self.assertEqual(GameTable(window, 2, pair).value(), (sum(pair), 1))

    def test_both_tables(self):
        """There is at most one fraction with both, so that these prove the value."""
        for window, lag in SIZES:
            for pair in PAIRS if SIZES[(window, lag)][1] < 2000 else [(1, 1), (3, 2)]:
                table = GameTable(window, lag, pair)
                num, den = table.value()
                self.assertEqual((gcd(num, den), den >= 1), (1, True))
                for rows, of_speaker in ((table.speaker_heights(), True), (table.teaser_heights(), False)):
                    self.assertIsInstance(rows, list)
                    self.assertEqual(len(rows), len(table.stands()))
                    self.assertTrue(all(type(row) is int for row in rows))
                    self.assertTrue(is_table(table, rows, num, den, of_speaker))

    def test_asked_again_first_or_last(self):
        for window, lag in ((1, 1), (2, 1), (1, 2)):
            one, other = GameTable(window, lag, (2, 1)), GameTable(window, lag, (2, 1))
            told = one.value(), one.speaker_heights(), one.teaser_heights(), one.best_tick(0), one.played(9)
            again = other.played(9), other.best_tick(0), other.teaser_heights(), other.speaker_heights(), other.value()
            self.assertEqual(told, again[::-1])
            self.assertEqual(told, (one.value(), one.speaker_heights(), one.teaser_heights(), one.best_tick(0),
                                    one.played(9)))

    def test_best_moves_and_ticks(self):
        for window, lag in ((1, 1), (2, 1), (1, 2), (3, 1)):
            table = GameTable(window, lag, (1, 3))
            num, den = table.value()
            up, down = table.speaker_heights(), table.teaser_heights()
            for stand in range(len(table.stands())):
                tick = table.best_tick(stand)
                self.assertIn(tick, table.ticks(stand))
                for _, gain, target in table.moves(stand, tick):
                    self.assertLessEqual(down[stand], den * gain - num + down[target])
                for tick in table.ticks(stand):
                    told = {move: (gain, target) for move, gain, target in table.moves(stand, tick)}
                    gain, target = told[table.best_move(stand, tick)]
                    self.assertGreaterEqual(up[stand], den * gain - num + up[target])

    def test_games_that_do_not_settle(self):
        """Where stands differ in what can be reached from them there is no such fraction."""
        with self.assertRaises(Unsettled):
            _solution_of([[[(None, 0, 1)], [(None, 0, 2)]], [[(None, 1, 1)]], [[(None, 0, 2)]]])

    def test_small_games(self):
        """Rings of stands, where the value is the mean of a ring that one of the two chooses."""
        teaser = [[[(None, 3, 1)], [(None, 0, 0)]], [[(None, 0, 0)]]]
        (num, den), up, down = _solution_of(teaser)
        self.assertEqual((num, den), (3, 2))
        self.assertTrue(up[0] >= 6 - 3 + up[1] and up[0] >= -3 + up[0] and up[1] >= -3 + up[0])
        self.assertTrue(down[0] <= 6 - 3 + down[1] and down[1] <= -3 + down[0])
        speaker = [[[(None, 3, 1), (None, 1, 0)]], [[(None, -2, 0)]]]
        self.assertEqual(_solution_of(speaker)[0], (1, 2))
        self.assertEqual(_solution_of([[[(None, -4, 0)]]]), ((-4, 1), [0], [0]))


class Playing(unittest.TestCase):
    """[84]: played"""

    def check(self, window, lag, pair, many):
        table = GameTable(window, lag, pair)
        left, right, script = found = table.played(many)
        self.assertIsInstance(found, tuple)
        self.assertTrue(is_text(left) and is_text(right))
        self.assertEqual((len(left), len(right)), (many, many))
        self.assertTrue(fits(script, left, right))
        stand, gains, i, j = 0, 0, 0, 0
        wanted = ""
        used = []
        for at in range(many):
            tick = table.best_tick(stand)
            start = max(0, at - max(window - 1, lag))
            last = left[start:at] + right[start:at]
            self.assertEqual(pattern_of(last + (left[at], right[at]), ())[0][-2:], tick)
            for letter, ahead in ((left[at], last), (right[at], last + (left[at],))):
                if letter not in ahead:
                    self.assertEqual(letter, min(set(range(200)) - set(used)))
                used.append(letter)
            a, b = move = table.best_move(stand, tick)
            wanted += slow_rest(left[i:i + a], right[j:j + b], pair)
            i, j = i + a, j + b
            gain, target = [(gain, target) for other, gain, target in table.moves(stand, tick) if other == move][0]
            gains += gain
            stand = target
        wanted += slow_rest(left[i:], right[j:], pair)
        self.assertEqual(script, wanted)
        prices = priced(pair, left, right)
        self.assertEqual(price_of(script, pair) - slow_least(left, right, prices, ("lag", lag)),
                         gains + table.closing(stand))
        num, den = table.value()
        up, down = table.speaker_heights(), table.teaser_heights()
        ends = [[rows[0] - row + den * table.closing(at) for at, row in enumerate(rows)] for rows in (up, down)]
        lost = den * (gains + table.closing(stand)) - num * many
        self.assertTrue(min(ends[1]) <= lost <= max(ends[0]))

    def test_no_ticks(self):
        for window, lag in SIZES:
            self.assertEqual(GameTable(window, lag, (1, 1)).played(0), ((), (), ""))

    def test_as_the_first_question(self):
        for window, lag in SIZES:
            for many in (1, 7, 60):
                self.check(window, lag, (1, 2), many)

    def test_every_pair(self):
        for pair in PAIRS:
            self.check(2, 1, pair, 20)
            self.check(1, 1, pair, 60)


if __name__ == "__main__":
    unittest.main()
