import unittest

from helpers import is_walk, random_graph, rng
from saidearly.patterns import last_letters, letters_of, pattern_of
from saidearly.walks import leaving, misstep, shortest_walk, texts_behind
from test_shown import slow_distance


class Walks(unittest.TestCase):
    def test_leaving(self):
        arrows = [(0, 0, 0, 2), (2, 0, 0, 0), (0, 0, 1, 0)]
        self.assertEqual(leaving(arrows, 3), [[0, 2], [], [1]])
        self.assertEqual(leaving([], 1), [[]])

    def test_misstep(self):
        arrows = [(0, 0, 0, 1), (1, 0, 0, 0)]
        self.assertIsNone(misstep(arrows, [], 5))
        self.assertIsNone(misstep(arrows, [0, 1, 0], 0))
        self.assertIsNone(misstep(arrows, [1, 0], 1))
        self.assertEqual([misstep(arrows, walk, 0) for walk in ([1], [0, 0], [0, 1, 2], [0, True], [0, -1], ["0"])],
                         [0, 1, 2, 1, 1, 0])

    def test_shortest_walks(self):
        chance = rng(990)
        for _ in range(60):
            table = random_graph(chance, 8, 8)
            for goal in range(table.many):
                walk = shortest_walk(table.arrows(), table.many, goal)
                self.assertTrue(is_walk(table, walk, 0))
                self.assertEqual(table.arrows()[walk[-1]][4] if walk else 0, goal)
                self.assertEqual(len(walk), slow_distance(table, goal))


class Letters(unittest.TestCase):
    def test_last_letters(self):
        pattern = pattern_of((5, 6, 7), (7, 8))
        self.assertEqual(last_letters(pattern, 1, 1), ((0,), (1,)))
        self.assertEqual(last_letters(pattern, 1, 2), ((0,), (0, 1)))
        self.assertEqual(last_letters(pattern, 0, 2), ((), (0, 1)))
        self.assertEqual(last_letters(pattern, 3, 2), pattern)
        self.assertEqual(last_letters(pattern, 9, 0), ((0, 1, 2), ()))

    def test_letters_of(self):
        self.assertEqual(letters_of((5,), (6,), (0, 1), (8, 9)), (5, 6))
        self.assertEqual(letters_of((5,), (6,), (2, 2), (8, 9)), (8, 8))
        self.assertEqual(letters_of((5,), (6,), (2, 3), (8, 9)), (8, 9))
        self.assertEqual(letters_of((5,), (6,), (2, 0), (8, 9)), (8, 5))
        self.assertEqual(letters_of((5,), (6,), (1, 2), (8, 9)), (6, 8))
        self.assertEqual(letters_of((), (), (0, 1), (8, 9)), (8, 9))

    def test_texts_behind(self):
        self.assertEqual(texts_behind((), (), ((), ()), (0, 0)), ((0,), (0,)))
        self.assertEqual(texts_behind((0, 1), (1, 2), ((0,), (1,)), (2, 3)), ((0, 1, 3), (1, 2, 4)))
        self.assertEqual(texts_behind((0, 1), (1, 2), ((0,), (1,)), (1, 2)), ((0, 1, 2), (1, 2, 3)))


if __name__ == "__main__":
    unittest.main()
