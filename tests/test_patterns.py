import unittest

from helpers import random_text, rng, texts_up_to
from saidearly.patterns import cut, grown, letters_of, pattern_of, tick_of, ticks


def slow_pattern(left, right):
    """The pattern by looking back from each letter."""
    numbers = []
    letters = left + right
    for at, letter in enumerate(letters):
        if letter in letters[:at]:
            numbers.append(numbers[letters.index(letter)])
        else:
            numbers.append(min(set(range(len(letters) + 1)) - set(numbers)))
    return tuple(numbers[:len(left)]), tuple(numbers[len(left):])


SMALL = [(left, right) for left in texts_up_to(3, 4) for right in texts_up_to(2, 4)]


class Patterns(unittest.TestCase):
    """[63]"""

    def test_some(self):
        self.assertEqual(pattern_of((), ()), ((), ()))
        self.assertEqual(pattern_of((7, 9, 7), (9, 3)), ((0, 1, 0), (1, 2)))
        self.assertEqual(pattern_of((), (5, 5, 4)), ((), (0, 0, 1)))
        self.assertEqual(pattern_of((5, 5, 4), ()), ((0, 0, 1), ()))
        self.assertEqual(pattern_of((8,) * 4, (8,) * 3), ((0,) * 4, (0,) * 3))
        self.assertEqual(pattern_of((3, 2), (1, 0)), ((0, 1), (2, 3)))
        self.assertEqual(pattern_of((10 ** 9, 0), (0, 10 ** 9)), ((0, 1), (1, 0)))

    def test_by_its_words(self):
        for left, right in SMALL:
            self.assertEqual(pattern_of(left, right), slow_pattern(left, right))

    def test_a_pattern_is_its_own(self):
        for left, right in SMALL:
            pattern = pattern_of(left, right)
            self.assertEqual(pattern_of(*pattern), pattern)

    def test_ticks(self):
        self.assertEqual(ticks(((), ())), [(0, 0), (0, 1)])
        self.assertEqual(ticks(((0,), ())), [(0, 0), (0, 1), (1, 0), (1, 1), (1, 2)])
        self.assertEqual(ticks(((0,), (1,))), [(0, 0), (0, 1), (0, 2), (1, 0), (1, 1), (1, 2), (2, 0), (2, 1), (2, 2),
                                               (2, 3)])
        self.assertIsInstance(ticks(((0, 0), (0,))), list)

    def test_ticks_are_all_that_letters_can_be(self):
        for left, right in SMALL:
            # The letters that stand in the texts, and two that do not.
            found = sorted({tick_of(left, right, x, y) for x in range(6) for y in range(6)})
            self.assertEqual(ticks(pattern_of(left, right)), found)

    def test_tick_of(self):
        self.assertEqual(tick_of((), (), 5, 5), (0, 0))
        self.assertEqual(tick_of((), (), 5, 6), (0, 1))
        self.assertEqual(tick_of((7,), (8,), 8, 7), (1, 0))
        self.assertEqual(tick_of((7,), (8,), 7, 9), (0, 2))
        self.assertEqual(tick_of((7,), (8,), 9, 7), (2, 0))
        self.assertEqual(tick_of((7,), (8,), 9, 9), (2, 2))
        self.assertEqual(tick_of((7,), (8,), 9, 6), (2, 3))

    def test_a_tick_of_a_pattern_is_itself(self):
        for left, right in SMALL:
            pattern = pattern_of(left, right)
            for tick in ticks(pattern):
                self.assertEqual(tick_of(*pattern, *tick), tick)

    def test_grown(self):
        self.assertEqual(grown(((), ()), (0, 0)), ((0,), (0,)))
        self.assertEqual(grown(((), ()), (0, 1)), ((0,), (1,)))
        # The new left letter stands ahead of the right ones, so that these are numbered anew.
        self.assertEqual(grown(((0,), (1,)), (2, 3)), ((0, 1), (2, 3)))
        self.assertEqual(grown(((0,), (1,)), (2, 1)), ((0, 1), (2, 2)))
        self.assertEqual(grown(((0, 0), (1,)), (1, 0)), ((0, 0, 1), (1, 0)))

    def test_grown_is_the_pattern_of_the_grown_texts(self):
        for left, right in SMALL:
            for x in range(5):
                for y in range(6):
                    self.assertEqual(grown(pattern_of(left, right), tick_of(left, right, x, y)),
                                     slow_pattern(left + (x,), right + (y,)))

    def test_cut(self):
        pattern = ((0, 1, 0), (2, 1))
        self.assertEqual(cut(pattern, 0, 0), pattern)
        self.assertEqual(cut(pattern, 1, 0), ((0, 1), (2, 0)))
        self.assertEqual(cut(pattern, 2, 1), ((0,), (1,)))
        self.assertEqual(cut(pattern, 3, 0), ((), (0, 1)))
        self.assertEqual(cut(pattern, 0, 2), ((0, 1, 0), ()))
        self.assertEqual(cut(pattern, 3, 2), ((), ()))

    def test_cutting_more_than_there_are(self):
        pattern = ((0, 1), (1,))
        self.assertEqual(cut(pattern, 9, 0), ((), (0,)))
        self.assertEqual(cut(pattern, 0, 9), ((0, 1), ()))
        self.assertEqual(cut(pattern, 60, 60), ((), ()))
        self.assertEqual(cut(((), ()), 1, 1), ((), ()))

    def test_cut_is_the_pattern_of_the_cut_texts(self):
        for left, right in SMALL:
            for a in range(5):
                for b in range(4):
                    self.assertEqual(cut(pattern_of(left, right), a, b), slow_pattern(left[a:], right[b:]))

    def test_long_ones(self):
        chance = rng(63)
        for _ in range(20):
            left, right = random_text(chance, 60, 40), random_text(chance, 60, 40)
            self.assertEqual(pattern_of(left, right), slow_pattern(left, right))

    def test_letters_of(self):
        for left, right in SMALL:
            for tick in ticks(pattern_of(left, right)):
                x, y = letters_of(left, right, tick, (50, 60))
                self.assertEqual(tick_of(left, right, x, y), tick)
                self.assertLessEqual({x, y} - {50, 60}, set(left + right))


if __name__ == "__main__":
    unittest.main()
