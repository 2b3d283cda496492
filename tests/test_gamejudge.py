import unittest
from math import gcd

from helpers import odd_values, rng, slow_least, slow_price
from saidearly.errors import NotHeights, Unsettled
from saidearly.gamejudge import is_speaker_table, is_teaser_table, speaker_bound, teaser_bound
from saidearly.games import GameTable, _solution_of
from saidearly.patterns import pattern_of
from test_gains import priced
from test_games import is_table
from test_ruletext import random_book
from test_speakers import PAIRS, SlowSpeaker, slow_rest, slow_spoken


class Game:
    """A game of a few stands: for each one the lists of (gain, target) of its ticks."""

    def __init__(self, leads, closings):
        self.leads = leads
        self.closings = closings

    def stands(self):
        return list(range(len(self.leads)))

    def ticks(self, stand):
        return [(0, number) for number in range(len(self.leads[stand]))]

    def moves(self, stand, tick):
        return [((0, at), gain, target) for at, (gain, target) in enumerate(self.leads[stand][tick[1]])]

    def closing(self, stand):
        return self.closings[stand]


def random_game(chance):
    many = chance.randint(1, 3)
    return Game([[[(chance.randint(-3, 3), chance.randrange(many)) for _ in range(chance.randint(1, 3))]
                  for _ in range(chance.randint(1, 3))] for _ in range(many)], [chance.randint(0, 5) for _ in range(many)])


class Judging(unittest.TestCase):
    """[85]"""

    def told(self, table, rows, num, den):
        """Whether rows are a speaker table and a teaser table; both bounds fit to that."""
        found = []
        for judge, bound, best in ((is_speaker_table, speaker_bound, max), (is_teaser_table, teaser_bound, min)):
            answer = judge(table, rows, num, den)
            self.assertIn(answer, (True, False))
            found.append(answer)
            if answer:
                self.assertEqual(bound(table, rows, num, den),
                                 best(rows[0] - row + den * table.closing(at) for at, row in enumerate(rows)))
            else:
                with self.assertRaises(NotHeights):
                    bound(table, rows, num, den)
        return tuple(found)

    def test_one_stand(self):
        game = Game([[[(2, 0), (5, 0)], [(3, 0), (4, 0)]]], [7])
        for row in (0, -5, 10 ** 39):
            self.assertEqual(self.told(game, [row], 3, 1), (True, True))
            self.assertEqual(self.told(game, [row], 2999, 1000), (False, True))
            self.assertEqual(self.told(game, [row], 3001, 1000), (True, False))
        self.assertEqual(speaker_bound(game, [4], 3, 1), 7)
        self.assertEqual(teaser_bound(game, [4], 30, 10), 70)

    def test_small_games_move_by_move(self):
        chance = rng(850)
        seen = set()
        for _ in range(3000):
            game = random_game(chance)
            rows = [chance.randint(-4, 4) for _ in game.leads]
            num, den = chance.randint(-3, 3), chance.randint(1, 2)
            told = self.told(game, rows, num, den)
            self.assertEqual(told, (is_table(game, rows, num, den, True), is_table(game, rows, num, den, False)))
            seen.add(told)
        self.assertEqual(len(seen), 4)

    def test_told_tables(self):
        for window, lag in ((1, 1), (2, 1), (1, 2)):
            for pair in PAIRS:
                table = GameTable(window, lag, pair)
                num, den = table.value()
                up, down = table.speaker_heights(), table.teaser_heights()
                self.assertTrue(self.told(table, up, num, den)[0])
                self.assertTrue(self.told(table, down, num, den)[1])
                # Higher ones, all by the same number.
                self.assertTrue(self.told(table, [row + 9 for row in up], num, den)[0])
                self.assertTrue(self.told(table, [row - 9 for row in down], num, den)[1])
                # At other fractions: only the one for more, or for less.
                self.assertTrue(self.told(table, up, num + 1, den)[0])
                self.assertFalse(self.told(table, up, num - 1, den)[0])
                self.assertTrue(self.told(table, down, num - 1, den)[1])
                self.assertFalse(self.told(table, down, num + 1, den)[1])
                self.assertTrue(self.told(table, [2 * row for row in up], 2 * num, 2 * den)[0])
                self.assertFalse(self.told(table, [1000 * row for row in up], 1000 * num - 1, 1000 * den)[0])

    def test_one_entry_lower_or_higher(self):
        chance = rng(851)
        refused = 0
        for window, lag in ((1, 1), (2, 1), (3, 1)):
            table = GameTable(window, lag, (1, 2))
            num, den = table.value()
            for rows in (table.speaker_heights(), table.teaser_heights()):
                for _ in range(12):
                    at = chance.randrange(len(rows))
                    other = rows[:at] + [rows[at] + chance.choice([-1, 1, 3 * den])] + rows[at + 1:]
                    told = self.told(table, other, num, den)
                    self.assertEqual(told, (is_table(table, other, num, den, True),
                                            is_table(table, other, num, den, False)))
                    refused += told == (False, False)
        self.assertGreater(refused, 3)

    def test_wrong_kinds(self):
        table = GameTable(1, 1, (1, 1))
        rows = table.speaker_heights()
        num, den = table.value()
        self.assertTrue(self.told(table, rows, num, den)[0])
        for thing in [rows[:-1], rows + [0], tuple(rows), [], None, [True] + rows[1:], rows[:-1] + [False],
                      rows[:-1] + [None], [rows], {at: row for at, row in enumerate(rows)}, "0000000"] + odd_values():
            for fraction in ((num, den), (100, 1), (-100, 1)):
                self.assertEqual(self.told(table, thing, *fraction), (False, False))
        one = Game([[[(0, 0)]]], [0])
        self.assertEqual(self.told(one, [0], 0, 1), (True, True))
        for thing in ([True], [False], (0,), [[0]], 0):
            self.assertEqual(self.told(one, thing, 0, 1), (False, False))

    def test_nothing_is_changed(self):
        table = GameTable(1, 1, (1, 1))
        rows = table.speaker_heights()
        before = list(rows)
        speaker_bound(table, rows, *table.value())
        self.assertEqual(rows, before)


class Solving(unittest.TestCase):
    """[84]: how a GameTable finds its value, on small games in which losses come round in more than one tick"""

    def test_random_games(self):
        chance = rng(854)
        unlike = 0
        unsettled = 0
        for _ in range(900):
            many = chance.randint(2, 4)
            game = Game([[[(chance.randint(-3, 3), chance.randrange(many)) for _ in range(chance.randint(1, 2))]
                          for _ in range(chance.randint(1, 2))] for _ in range(many)], [0] * many)
            try:
                (num, den), up, down = _solution_of([[[((0, 0), gain, target) for gain, target in moves]
                                                      for moves in row] for row in game.leads])
            except Unsettled:
                unsettled += 1
                continue
            self.assertEqual((gcd(num, den), den >= 1), (1, True))
            self.assertTrue(is_speaker_table(game, up, num, den))
            self.assertTrue(is_teaser_table(game, down, num, den))
            unlike += up != down and not is_speaker_table(game, down, num, den)
        self.assertGreater(unlike, 3)
        self.assertGreater(unsettled, 20)


class Proving(unittest.TestCase):
    """[85]: what the bounds say of speakers and of texts"""

    def test_a_speaker_that_moves_by_the_table(self):
        chance = rng(852)
        for window, lag in ((1, 1), (2, 1), (1, 2), (3, 1)):
            pair = chance.choice(PAIRS)
            table = GameTable(window, lag, pair)
            num, den = table.value()
            top = speaker_bound(table, table.speaker_heights(), num, den)
            for _ in range(15):
                left, right, stand, script, i, j = (), (), 0, "", 0, 0
                many = chance.randint(0, 12)
                for _ in range(many):
                    x, y = chance.randrange(3), chance.randrange(3)
                    start = max(0, len(left) - max(window - 1, lag))
                    tick = pattern_of(left[start:] + right[start:] + (x, y), ())[0][-2:]
                    left, right = left + (x,), right + (y,)
                    a, b = table.best_move(stand, tick)
                    script += slow_rest(left[i:i + a], right[j:j + b], pair)
                    i, j = i + a, j + b
                    stand = [target for move, _, target in table.moves(stand, tick) if move == (a, b)][0]
                script += slow_rest(left[i:], right[j:], pair)
                prices = priced(pair, left, right)
                lost = slow_price(script, left, right, prices) - slow_least(left, right, prices, ("lag", lag))
                self.assertLessEqual(den * lost, top + num * many)

    def test_a_teaser_against_any_speaker(self):
        """Speakers with rulebooks are some of those with this window: they can be made to lose so much."""
        chance = rng(853)
        for _ in range(40):
            window = chance.choice([1, 2, 2, 3])
            book, pair = random_book(chance, (window, window)), chance.choice(PAIRS)
            table = GameTable(window, 1, pair)
            num, den = table.value()
            low = teaser_bound(table, table.teaser_heights(), num, den)
            left, right, stand, done = (), (), 0, (0, 0)
            for many in range(1, 11):
                tick = table.best_tick(stand)
                start = max(0, len(left) - max(window - 1, 1))
                letters = list(dict.fromkeys(left[start:] + right[start:])) + [2 * many + 100, 2 * many + 101]
                left, right = left + (letters[tick[0]],), right + (letters[tick[1]],)
                # What was said till then tells the move.
                said = spoken_so_far(book, left, right)
                now = sum(step in "kd" for step in said), sum(step in "kp" for step in said)
                move = now[0] - done[0], now[1] - done[1]
                stand = [target for other, _, target in table.moves(stand, tick) if other == move][0]
                done = now
                prices = priced(pair, left, right)
                paid = slow_price(slow_spoken(book, pair, left, right), left, right, prices)
                lost = paid - slow_least(left, right, prices, ("lag", 1))
                self.assertGreaterEqual(den * lost, low + num * many)


def spoken_so_far(book, left, right):
    speaker = SlowSpeaker(book)
    for x, y in zip(left, right):
        speaker.tick(x, y)
    return speaker.said


if __name__ == "__main__":
    unittest.main()
