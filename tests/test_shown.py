import unittest

from helpers import Graph, is_walk, rng
from saidearly.errors import NotAWalk
from saidearly.gains import GainTable, loss_of
from saidearly.letters import is_text
from saidearly.patterns import pattern_of, tick_of
from saidearly.rings import worst_ring
from saidearly.rulebooks import Rulebook
from saidearly.senders import Sender, free_sender
from saidearly.shown import texts_of, texts_round
from saidearly.speakers import spoken
from saidearly.versus import VersusTable
from test_gains import slow_walks
from test_rings import random_table
from test_rulebooks import KEEP
from test_senders import ANY, NEW, TICK

LIKE = Rulebook(2, 1, (KEEP,))


def some_walk(chance, table, many):
    """A walk from stand 0 of at most so many arrows."""
    walk, stand = [], 0
    for _ in range(many):
        ways = [number for number, arrow in enumerate(table.arrows()) if arrow[0] == stand]
        if not ways:
            break
        walk.append(chance.choice(ways))
        stand = table.arrows()[walk[-1]][4]
    return walk


def slow_texts(table, walk):
    """The texts of a walk letter by letter; of the kept letters the ones that are like a new one are looked for."""
    left, right = (), ()
    for number in walk:
        stand, x, y, _, _ = table.arrows()[number]
        many, many_right = (len(side) for side in table.stands()[stand][3])
        kept = left[len(left) - many:] + right[len(right) - many_right:]
        letters = list(dict.fromkeys(kept))
        for which in (x, y):
            if which == len(letters):
                letters.append(min(set(range(2000)) - set(left + right + tuple(letters))))
        left, right = left + (letters[x],), right + (letters[y],)
    return left, right


def slow_distance(table, goal):
    """How many arrows a shortest walk from stand 0 to a stand has."""
    at, many = {0}, 0
    while goal not in at:
        at |= {arrow[4] for arrow in table.arrows() if arrow[0] in at}
        many += 1
    return many


class Walks(unittest.TestCase):
    """[75]: texts_of"""

    def refused(self, table, walk, at):
        with self.assertRaises(NotAWalk) as caught:
            texts_of(table, walk)
        self.assertEqual(caught.exception.at, at)

    def test_the_empty_walk(self):
        for table in (Graph(1, []), GainTable(LIKE, (1, 1), 1, free_sender()), VersusTable(LIKE, LIKE, (1, 1))):
            self.assertEqual(texts_of(table, []), ((), ()))

    def test_new_letters(self):
        table = GainTable(LIKE, (1, 1), 1, free_sender())
        arrows = table.arrows()

        def walk_by(ticks):
            walk, stand = [], 0
            for tick in ticks:
                walk += [number for number, arrow in enumerate(arrows) if arrow[0] == stand and arrow[1:3] == tick]
                stand = arrows[walk[-1]][4]
            return walk

        # The left letter first, and the least one that neither text has, also where a forgotten one is less.
        self.assertEqual(texts_of(table, walk_by([(0, 0)])), ((0,), (0,)))
        self.assertEqual(texts_of(table, walk_by([(0, 1)])), ((0,), (1,)))
        self.assertEqual(texts_of(table, walk_by([(0, 1), (2, 3), (2, 3)])), ((0, 2, 4), (1, 3, 5)))
        self.assertEqual(texts_of(table, walk_by([(0, 1), (2, 2), (1, 1)])), ((0, 2, 3), (1, 2, 3)))
        # Only the right letter is new.
        self.assertEqual(texts_of(table, walk_by([(0, 1), (1, 2), (0, 2), (0, 1)])), ((0, 1, 1, 1), (1, 2, 3, 3)))
        # Only the left one is.
        self.assertEqual(texts_of(table, walk_by([(0, 1), (2, 0), (2, 1)])), ((0, 2, 3), (1, 0, 0)))

    def test_against_letter_by_letter(self):
        chance = rng(750)
        for _ in range(60):
            table = random_table(chance)
            walk = some_walk(chance, table, chance.randint(0, 15))
            left, right = texts_of(table, walk)
            self.assertTrue(is_text(left) and is_text(right))
            self.assertEqual((left, right), slow_texts(table, walk))
            if isinstance(table, VersusTable):
                self.assertEqual(table.walk(left, right), walk)
            elif len(walk) < 8:
                self.assertIn(walk, slow_walks(table, left, right))

    def test_they_take_just_the_gains_of_the_walk(self):
        chance = rng(751)
        for lag in (1, 2):
            table = GainTable(LIKE, (1, 2), lag, free_sender())
            for many in range(12):
                walk = some_walk(chance, table, many)
                left, right = texts_of(table, walk)
                self.assertEqual(table.walk(left, right), walk)
                end = table.arrows()[walk[-1]][4] if walk else 0
                gains = sum(table.arrows()[number][3] for number in walk)
                self.assertEqual(loss_of(LIKE, (1, 2), lag, left, right), gains + table.closing(end))

    def test_700_arrows(self):
        chance = rng(752)
        table = GainTable(LIKE, (1, 1), 1, free_sender())
        walk = some_walk(chance, table, 700)
        left, right = texts_of(table, walk)
        self.assertEqual((len(left), len(right)), (700, 700))
        self.assertEqual(table.walk(left, right), walk)
        self.assertEqual((left, right), slow_texts(table, walk))
        table = VersusTable(LIKE, Rulebook(1, 1, ()), (1, 1))
        walk = some_walk(chance, table, 700)
        self.assertEqual(table.walk(*texts_of(table, walk)), walk)

    def test_no_walks(self):
        table = GainTable(LIKE, (1, 1), 1, free_sender())
        arrows = table.arrows()
        many = len(arrows)
        walk = some_walk(rng(753), table, 6)
        off = [number for number in range(many) if arrows[number][0] != arrows[walk[3]][4]]
        self.refused(table, [many], 0)
        self.refused(table, [-1], 0)
        self.refused(table, [10 ** 39, 0], 0)
        self.refused(table, walk + [many], 6)
        self.refused(table, walk[:3] + [-many] + walk[3:], 3)
        self.refused(table, walk[:4] + [off[0]], 4)
        self.refused(table, walk[:4] + [off[-1], many, -1], 4)
        # The first one has to begin at stand 0.
        first = [number for number in range(many) if arrows[number][0] != 0][0]
        self.refused(table, [first], 0)
        self.refused(table, [first, many], 0)
        self.refused(table, [True], 0)
        self.refused(Graph(1, []), [0], 0)
        self.refused(VersusTable(Rulebook(1, 1, ()), Rulebook(2, 1, ()), (1, 1)), [0, 0], 1)

    def test_nothing_is_changed(self):
        table = GainTable(LIKE, (1, 1), 1, free_sender())
        walk = [0]
        texts_of(table, walk)
        self.assertEqual(walk, [0])


class Rounds(unittest.TestCase):
    """[75]: texts_round"""

    def check(self, table, ring, rounds):
        left, right = texts_round(table, ring, rounds)
        first = slow_distance(table, table.arrows()[ring[0]][0])
        self.assertEqual((len(left), len(right)), (first + rounds * len(ring),) * 2)
        return left, right

    def test_a_ring_at_stand_0(self):
        table = VersusTable(Rulebook(1, 1, ()), Rulebook(1, 1, (KEEP,)), (1, 1))
        self.assertEqual(texts_round(table, [0], 0), ((), ()))
        self.assertEqual(texts_round(table, [0], 3), ((0, 1, 2), (0, 1, 2)))
        self.assertEqual(texts_round(table, [1], 2), ((0, 2), (1, 3)))

    def test_a_ring_elsewhere(self):
        table = GainTable(Rulebook(1, 1, ()), (1, 1), 1, Sender(2, 1, ((0, NEW, ANY, 1), (1, NEW, TICK, 1)), ()))
        _, _, ring = worst_ring(table)
        for rounds in (0, 1, 2, 20):
            left, right = self.check(table, ring, rounds)
            walk = table.walk(left, right)
            self.assertEqual(walk[len(walk) - rounds * len(ring):], ring * rounds)
            self.assertTrue(is_walk(table, walk, 0))

    def test_worst_rings(self):
        """Each round loses the sum of the gains once more."""
        chance = rng(754)
        met = 0
        while met < 25:
            table = random_table(chance)
            found = worst_ring(table)
            if found is None:
                continue
            met += 1
            num, den, ring = found
            self.check(table, ring, 3)
            self.check(table, ring, 0)

    def test_losses_grow_round_by_round(self):
        chance = rng(755)
        for _ in range(10):
            book = Rulebook(chance.choice([1, 2]), 1, (KEEP,) if chance.random() < 0.5 else ())
            table = GainTable(book, (1, 2), 1, free_sender())
            num, den, ring = worst_ring(table)
            losses = [loss_of(book, (1, 2), 1, *texts_round(table, ring, rounds)) for rounds in range(6)]
            grown = {den * (after - before) for before, after in zip(losses, losses[1:])}
            self.assertEqual(grown, {num * len(ring)})

    def test_two_speakers(self):
        one, other = Rulebook(1, 1, ()), LIKE
        table = VersusTable(one, other, (1, 2))
        num, den, ring = worst_ring(table)
        for rounds in (1, 5):
            left, right = texts_round(table, ring, rounds)
            paid = [sum({"k": 0, "d": 1, "p": 2}[step] for step in spoken(book, (1, 2), left, right))
                    for book in (one, other)]
            stands = table.walk(left, right)
            end = table.arrows()[stands[-1]][4]
            gains = sum(table.arrows()[number][3] for number in stands)
            self.assertEqual(paid[0] - paid[1], gains + table.closing(end))

    def test_patterns_are_those_of_the_last_letters(self):
        """The helpers above rest on these."""
        self.assertEqual(tick_of((5,), (6,), 6, 7), (1, 2))
        self.assertEqual(pattern_of((5,), (6,)), ((0,), (1,)))


if __name__ == "__main__":
    unittest.main()
