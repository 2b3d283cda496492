import unittest

from helpers import Graph, odd_values, random_graph, rng, slow_rings, walk_gain
from saidearly.errors import NotARing, NotHeights
from saidearly.gains import GainTable, loss_of
from saidearly.lossjudge import bound_by, is_height_table, is_ring, mean_of
from saidearly.rings import heights, worst_ring
from saidearly.rulebooks import Rulebook
from saidearly.senders import free_sender
from saidearly.versus import VersusTable
from test_rings import random_table
from test_rulebooks import KEEP
from test_speakers import equal_texts

LIKE = Rulebook(2, 1, (KEEP,))


class Rows(unittest.TestCase):
    """[76]"""

    def good(self, table, rows, num, den):
        self.assertIs(is_height_table(table, rows, num, den), True)
        self.assertEqual(bound_by(table, rows, num, den),
                         max(row + den * table.closing(at) for at, row in enumerate(rows)))

    def bad(self, table, rows, num, den):
        self.assertIs(is_height_table(table, rows, num, den), False, rows)
        with self.assertRaises(NotHeights):
            bound_by(table, rows, num, den)

    def test_one_stand(self):
        table = Graph(1, [(0, 2, 0)], [7])
        for first in (0, 1, 10 ** 39):
            self.good(table, [first], 2, 1)
            self.good(table, [first], 2001, 1000)
            self.bad(table, [first], 1999, 1000)
        self.assertEqual(bound_by(table, [3], 2, 1), 10)
        self.assertEqual(bound_by(table, [3], 20, 10), 73)
        self.bad(table, [-1], 2, 1)
        for rows in ([], [0, 0], (0,), [True], [False], [None], ["0"], [[0]], {0: 0}, [0.0]):
            self.bad(table, rows, 2, 1)

    def test_each_arrow_counts(self):
        table = Graph(3, [(0, 4, 1), (1, -3, 2), (2, -1, 0)], [0, 1, 2])
        self.good(table, [0, 4, 1], 0, 1)
        self.good(table, [5, 9, 6], 0, 1)
        for rows in ([0, 3, 1], [0, 4, 0], [0, 4, 2], [0, 5, 1], [-1, 4, 1]):
            self.bad(table, rows, 0, 1)
        # Other denominators, with room in every arrow, and negative numerators.
        self.good(table, [0, 12, 3], 1, 3)
        self.good(table, [0, 11, 1], 1, 3)
        self.bad(table, [0, 10, 1], 1, 3)
        self.bad(table, [0, 5, 3], -1, 1)
        falling = Graph(2, [(0, -3, 1), (1, 0, 0)])
        self.good(falling, [0, -3], -3, 2)
        self.bad(falling, [0, -2], -3, 2)
        self.bad(falling, [0, -4], -3, 2)
        self.bad(falling, [0, -3], -4, 2)

    def test_own_heights_and_one_off(self):
        chance = rng(760)
        met = 0
        while met < 60:
            table = random_graph(chance) if chance.random() < 0.5 else random_table(chance)
            found = worst_ring(table)
            num, den = found[:2] if found else (chance.randint(-3, 3), 2)
            rows = heights(table, num, den)
            if len(rows) < 2:
                continue
            met += 1
            self.good(table, rows, num, den)
            self.good(table, rows, num + 1, den)
            # Told heights are the least ones from 0 on; one lowered by one is none.
            at = chance.randrange(len(rows))
            lower = rows[:at] + [rows[at] - 1] + rows[at + 1:]
            self.bad(table, lower, num, den)
            self.bad(table, rows + [0], num, den)
            self.bad(table, rows[:-1], num, den)
            self.bad(table, tuple(rows), num, den)
            self.bad(table, rows[:at] + [None] + rows[at + 1:], num, den)
            self.good(table, [row + 5 for row in rows], num, den)
            if found:
                self.bad(table, rows, 1000 * num - 1, 1000 * den)

    def test_truths_are_no_integers(self):
        table = Graph(2, [(0, 1, 1)])
        self.good(table, [0, 1], 0, 1)
        self.good(table, [1, 2], 0, 1)
        self.bad(table, [0, True], 0, 1)
        self.bad(table, [False, 1], 0, 1)

    def test_any_value(self):
        for table in (GainTable(LIKE, (1, 1), 1, free_sender()), VersusTable(LIKE, LIKE, (1, 1)), Graph(1, [])):
            for thing in odd_values():
                if thing == [0] and len(table.stands()) == 1:
                    continue
                self.bad(table, thing, 5, 1)
                if not isinstance(thing, int) or isinstance(thing, bool):
                    self.bad(table, [thing] * len(table.stands()), 5, 1)

    def test_losses_stay_below(self):
        chance = rng(761)
        table = GainTable(LIKE, (1, 3), 1, free_sender())
        num, den, _ = worst_ring(table)
        top = bound_by(table, heights(table, num, den), num, den)
        for _ in range(60):
            left, right = equal_texts(chance, chance.randint(0, 16), 3)
            self.assertLessEqual(den * loss_of(LIKE, (1, 3), 1, left, right), top + num * len(left))

    def test_nothing_is_changed(self):
        table = Graph(2, [(0, 1, 1)])
        rows = [0, 1]
        bound_by(table, rows, 0, 1)
        self.assertEqual(rows, [0, 1])


class Rings(unittest.TestCase):
    """[77]"""

    def good(self, table, walk):
        self.assertIs(is_ring(table, walk), True)
        self.assertEqual(mean_of(table, walk), (walk_gain(table, walk), len(walk)))

    def bad(self, table, walk):
        self.assertIs(is_ring(table, walk), False, walk)
        with self.assertRaises(NotARing):
            mean_of(table, walk)

    def test_some(self):
        table = Graph(4, [(0, 1, 1), (1, 2, 2), (2, 3, 0), (2, 4, 1), (3, 9, 3), (1, -6, 2)])
        self.good(table, [0, 1, 2])
        self.good(table, [1, 2, 0])
        self.good(table, [2, 0, 1])
        self.good(table, [1, 3])
        self.good(table, [5, 3])
        self.good(table, [4])
        for walk in ([], [0], [0, 1], [0, 1, 3], [0, 1, 2, 0, 1, 2], [1, 3, 1, 3], [0, 1, 3, 1, 2], [4, 4], [2, 1, 0],
                     [0, 1, 2, 0], [6], [-2], [0, 1, -4], [0, 5, 4], (0, 1, 2), (4,), [None], ["4"], [[4]], [0, True, 2],
                     {4: 4}, None, 4, "4"):
            self.bad(table, walk)

    def test_true_is_no_number_of_an_arrow(self):
        table = Graph(1, [(0, 1, 0), (0, 2, 0)])
        self.good(table, [1])
        self.good(table, [0])
        self.bad(table, [True])
        self.bad(table, [False])

    def test_the_mean_is_not_reduced(self):
        table = Graph(2, [(0, 3, 1), (1, 3, 0)])
        self.assertEqual(mean_of(table, [0, 1]), (6, 2))
        self.assertEqual(mean_of(Graph(2, [(0, -1, 1), (1, -3, 0)]), [1, 0]), (-4, 2))
        self.assertEqual(mean_of(Graph(2, [(0, -1, 1), (1, 1, 0)]), [1, 0]), (0, 2))

    def test_all_rings_of_small_tables(self):
        chance = rng(770)
        for _ in range(80):
            table = random_graph(chance, 4, 5)
            rings = slow_rings(table)
            for ring in rings:
                self.good(table, ring)
                self.good(table, ring[1:] + ring[:1])
                self.bad(table, ring * 2)
                self.bad(table, tuple(ring))
                if len(ring) > 1:
                    self.bad(table, ring[1:])
                    self.bad(table, ring[:-1])
            for _ in range(20):
                walk = [chance.randrange(-1, 9) for _ in range(chance.randint(0, 4))]
                if walk in rings:
                    self.good(table, walk)
                else:
                    self.bad(table, walk)

    def test_worst_rings(self):
        chance = rng(771)
        for _ in range(30):
            table = random_table(chance)
            found = worst_ring(table)
            if found:
                num, den, ring = found
                self.good(table, ring)
                total, length = mean_of(table, ring)
                self.assertEqual(total * den, num * length)

    def test_any_value(self):
        for table in (GainTable(LIKE, (1, 1), 1, free_sender()), VersusTable(LIKE, LIKE, (1, 1)), Graph(1, [])):
            for thing in odd_values():
                if isinstance(thing, list) and thing == [0] and table.arrows()[:1] and table.arrows()[0][4] == 0:
                    continue
                self.bad(table, thing)
                if not isinstance(thing, int) or isinstance(thing, bool):
                    self.bad(table, [thing])


if __name__ == "__main__":
    unittest.main()
