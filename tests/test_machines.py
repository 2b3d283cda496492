import itertools
import unittest

from helpers import rng
from saidearly.errors import TooMany
from saidearly.letters import is_text
from saidearly.machines import Machine
from saidearly.patterns import pattern_of, tick_of
from saidearly.rulebooks import Rulebook
from saidearly.speakers import Speaker
from test_patterns import slow_pattern
from test_rulebooks import KEEP, rule
from test_ruletext import random_book
from test_speakers import SlowSpeaker, equal_texts

FIRST = (0, ((), ()))


def slow_machine(book):
    """The stands and the arrows, by slow speakers with letters; or the count of which there are too many."""
    stands, waits, arrows = [FIRST], [((), ())], []
    at = 0
    while at < len(stands):
        left, right = waits[at]
        new = [letter for letter in range(20) if letter not in left + right][:2]
        letters = sorted(set(left + right)) + new
        # For each tick some letters that are it.
        by_tick = {}
        for x, y in itertools.product(letters, repeat=2):
            by_tick.setdefault(tick_of(left, right, x, y), (x, y))
        for tick in sorted(by_tick):
            speaker = SlowSpeaker(book)
            speaker.mark = stands[at][0]
            speaker.waits = {"left": list(left), "right": list(right)}
            said = speaker.tick(*by_tick[tick])
            mark, on_left, on_right = speaker.stand()
            stand = mark, slow_pattern(on_left, on_right)
            if stand not in stands:
                if len(stands) == 600:
                    return 601
                stands.append(stand)
                waits.append((on_left, on_right))
            if len(arrows) == 8000:
                return 8001
            arrows.append((at, tick, said, stands.index(stand)))
        at += 1
    return stands, arrows


def slow_least(tables):
    """For each stand of several tables the first (table, stand) that is alike, by telling apart ever longer runs."""
    spots = [(k, at) for k, (stands, _) in enumerate(tables) for at in range(len(stands))]
    leads = [{} for _ in tables]
    for k, (_, arrows) in enumerate(tables):
        for start, tick, said, target in arrows:
            leads[k].setdefault(start, []).append((said, target))
    unlike = {(one, other) for one in spots for other in spots
              if tables[one[0]][0][one[1]][1] != tables[other[0]][0][other[1]][1]
              or [said for said, _ in leads[one[0]][one[1]]] != [said for said, _ in leads[other[0]][other[1]]]}
    while True:
        more = {(one, other) for one in spots for other in spots if (one, other) not in unlike
                and any(((one[0], a), (other[0], b)) in unlike
                        for (_, a), (_, b) in zip(leads[one[0]][one[1]], leads[other[0]][other[1]]))}
        if not more:
            return {one: min(other for other in spots if (one, other) not in unlike) for one in spots}
        unlike |= more


def told_apart(book, other, left, right):
    """The tick with which two speakers first say unlike steps, or None."""
    pair = Speaker(book, (1, 1)), Speaker(other, (1, 1))
    for at, (x, y) in enumerate(zip(left, right)):
        if pair[0].tick(x, y) != pair[1].tick(x, y):
            return at
    return None


def patterns_of_length(many):
    """Texts of so many letters a side, one for each pattern."""
    found = {}
    for left in itertools.product(range(2 * many), repeat=many):
        if left == slow_pattern(left, ())[0]:
            for right in itertools.product(range(2 * many), repeat=many):
                pattern = pattern_of(left, right)
                found.setdefault(pattern, pattern)
    return list(found)


class Tables(unittest.TestCase):
    """[65]: stands, arrows"""

    def test_the_least_machine(self):
        machine = Machine(Rulebook(1, 1, ()))
        self.assertEqual(machine.stands(), [FIRST])
        self.assertEqual(machine.arrows(), [(0, (0, 0), "dp", 0), (0, (0, 1), "dp", 0)])

    def test_window_2(self):
        machine = Machine(Rulebook(2, 1, ()))
        self.assertEqual(machine.stands(), [FIRST, (0, ((0,), (0,))), (0, ((0,), (1,)))])
        self.assertEqual(machine.arrows()[:7], [(0, (0, 0), "", 1), (0, (0, 1), "", 2), (1, (0, 0), "dp", 1),
                                                (1, (0, 1), "dp", 2), (1, (1, 0), "dp", 2), (1, (1, 1), "dp", 1),
                                                (1, (1, 2), "dp", 2)])
        self.assertEqual(len(machine.arrows()), 17)

    def test_books_without_rules(self):
        for window, stands, arrows in ((1, 1, 2), (2, 3, 17), (3, 18, 220), (4, 221, 4360)):
            machine = Machine(Rulebook(window, 1, ()))
            self.assertEqual((len(machine.stands()), len(machine.arrows())), (stands, arrows))
            self.assertEqual((machine.stands(), machine.arrows()), slow_machine(Rulebook(window, 1, ())))

    def test_against_slow_speakers(self):
        chance = rng(650)
        for _ in range(80):
            book = random_book(chance, (1, 3))
            wanted = slow_machine(book)
            if isinstance(wanted, int):
                with self.assertRaises(TooMany) as caught:
                    Machine(book)
                self.assertEqual(caught.exception.count, wanted)
            else:
                machine = Machine(book)
                self.assertEqual((machine.stands(), machine.arrows()), wanted)

    def test_what_is_returned_is_new(self):
        machine = Machine(Rulebook(1, 1, ()))
        for told in (machine.stands, machine.arrows, machine.least, lambda: machine.walk((1,), (1,))):
            before = list(told())
            told().clear()
            self.assertEqual(told(), before)

    def test_too_many(self):
        """Both causes; which one comes first is told by the slow way."""
        stands = Rulebook(4, 3, ((0, (("same", 2, 0), ("many", "right", 4)), "dp", 2),
                                 (None, (("many", "left", 4), ("twin", "left", 1, 3)), "pdd", 1)))
        arrows = Rulebook(4, 3, ((0, (("same", 0, 0),), "kp", 2), (1, (), "p", 1)))
        for book, count in ((stands, 601), (arrows, 8001)):
            self.assertEqual(slow_machine(book), count)
            with self.assertRaises(TooMany) as caught:
                Machine(book)
            self.assertEqual(caught.exception.count, count)

    def test_many_but_not_too_many(self):
        book = Rulebook(4, 3, ((0, (), "d", 1), (1, (), "p", 2), (2, (("unlike", 0, 0),), "d", 0)))
        machine = Machine(book)
        self.assertEqual((machine.stands(), machine.arrows()), slow_machine(book))


class Walks(unittest.TestCase):
    """[65]: walk"""

    def test_empty_texts(self):
        self.assertEqual(Machine(Rulebook(2, 1, ())).walk((), ()), [0])

    def test_some(self):
        machine = Machine(Rulebook(2, 1, (KEEP,)))
        self.assertEqual(machine.walk((5, 5, 6), (5, 7, 8)), [0, 0, 1, 1])
        self.assertEqual(machine.stands()[1], (0, ((0,), (1,))))

    def test_against_speakers(self):
        chance = rng(652)
        for _ in range(60):
            book = random_book(chance, (1, 3))
            try:
                machine = Machine(book)
            except TooMany:
                continue
            left, right = equal_texts(chance, chance.randint(0, 20), 3)
            speaker = Speaker(book, (1, 1))
            stands = [FIRST]
            said = []
            for x, y in zip(left, right):
                said.append(speaker.tick(x, y))
                stands.append((speaker.mark(), pattern_of(speaker.waiting("left"), speaker.waiting("right"))))
            walk = machine.walk(left, right)
            self.assertEqual([machine.stands()[at] for at in walk], stands)
            leads = {(start, target, words) for start, _, words, target in machine.arrows()}
            for at, words in enumerate(said):
                self.assertIn((walk[at], walk[at + 1], words), leads)


class Alike(unittest.TestCase):
    """[65]: least, parting"""

    def test_least_of_books_without_rules(self):
        for window in range(1, 5):
            machine = Machine(Rulebook(window, 1, ()))
            # Without rules each stand waits for its own letters, and nothing else tells them apart.
            self.assertEqual(machine.least(), list(range(len(machine.stands()))))

    def test_marks_that_mean_the_same(self):
        machine = Machine(Rulebook(1, 3, ((0, (), "dp", 1), (1, (), "dp", 2), (2, (), "dp", 0))))
        self.assertEqual(machine.stands(), [FIRST, (1, ((), ())), (2, ((), ()))])
        self.assertEqual(machine.least(), [0, 0, 0])
        machine = Machine(Rulebook(1, 3, ((0, (), "dp", 1), (1, (), "dp", 2), (2, (), "pd", 0))))
        self.assertEqual(machine.least(), [0, 1, 2])

    def test_least_against_telling_apart(self):
        chance = rng(653)
        met = 0
        merged = 0
        while met < 40:
            book = random_book(chance, (1, 3), 5)
            wanted = slow_machine(book)
            if isinstance(wanted, int) or len(wanted[0]) > 40:
                continue
            met += 1
            least = slow_least([wanted])
            found = Machine(book).least()
            self.assertEqual(found, [least[(0, at)][1] for at in range(len(wanted[0]))])
            merged += found != list(range(len(found)))
        self.assertGreater(merged, 3)

    def test_parting_of_the_same(self):
        chance = rng(654)
        for _ in range(20):
            book = random_book(chance, (1, 2))
            self.assertIsNone(Machine(book).parting(Machine(book)))
        one = Machine(Rulebook(1, 1, ()))
        self.assertIsNone(one.parting(one))
        self.assertIsNone(one.parting(Machine(Rulebook(1, 3, ((None, (), "dp", 2),)))))
        # A rule that goes only where the window speaks as well.
        self.assertIsNone(Machine(Rulebook(2, 1, ())).parting(Machine(Rulebook(2, 1, (
            (None, (("many", "left", 2),), "d", 0),)))))

    def test_parting_at_once(self):
        one, other = Machine(Rulebook(1, 1, ())), Machine(Rulebook(2, 1, ()))
        left, right = one.parting(other)
        self.assertEqual((len(left), len(right)), (1, 1))
        left, right = one.parting(Machine(Rulebook(1, 1, (KEEP,))))
        self.assertEqual((len(left), left), (1, right))

    def test_parting_late(self):
        """A book that counts its ticks by marks, and one that never does so."""
        one = Machine(Rulebook(1, 3, ((0, (), "dp", 1), (1, (), "dp", 2), (2, (("same", 0, 0),), "k", 0),
                                      (2, (), "dp", 2))))
        other = Machine(Rulebook(1, 1, (rule((), "dp"),)))
        left, right = one.parting(other)
        self.assertEqual((len(left), len(right)), (3, 3))
        self.assertEqual(left[2], right[2])
        self.assertEqual(len(other.parting(one)[0]), 3)

    def test_parting_by_letters_that_wait(self):
        one = Machine(Rulebook(3, 1, ()))
        other = Machine(Rulebook(3, 1, ((None, (("twin", "left", 0, 1), ("many", "right", 2)), "dp", 0),)))
        left, right = one.parting(other)
        self.assertEqual(len(left), 2)
        self.assertEqual(left[0], left[1])

    def test_parting_by_letters_that_are_all_unlike(self):
        equal = [("twin", "left", 0, 1), ("twin", "right", 0, 1), ("same", 0, 0), ("same", 0, 1), ("same", 1, 0),
                 ("same", 1, 1)]
        rules = tuple((None, (test,), "dp", 0) for test in equal)
        one = Machine(Rulebook(3, 1, rules + ((None, (("many", "left", 2),), "dp", 0),)))
        left, right = one.parting(Machine(Rulebook(3, 1, rules)))
        self.assertEqual((len(left), len(right), len(set(left + right))), (2, 2, 4))
        self.assertTrue(is_text(left) and is_text(right))

    def test_parting_by_many_tests(self):
        """Rules that ask for much of the letters of three or four ticks, all but the last of which wait."""
        chance = rng(656)
        lengths = []
        while len(lengths) < 60:
            window = chance.choice([3, 3, 4])
            places = [chance.randrange(window) for _ in range(8)]
            tests = [(chance.choice(["same", "unlike"]), places[0], places[1]),
                     (chance.choice(["same", "unlike"]), places[2], places[3])]
            for side, i, k in (("left", *sorted(places[4:6])), ("right", *sorted(places[6:8]))):
                if i < k:
                    tests.append(("twin", side, i, k))
            one = Rulebook(window, 1, ((None, tuple(tests), chance.choice(["d", "p", "dp"]), 0),))
            other = Rulebook(window, 1, ())
            found = Machine(one).parting(Machine(other))
            if found is None:
                continue
            left, right = found
            lengths.append(len(left))
            self.assertTrue(is_text(left) and is_text(right))
            self.assertEqual(told_apart(one, other, left, right), len(left) - 1)
            if len(left) == 3:
                for shorter in patterns_of_length(2):
                    self.assertIsNone(told_apart(one, other, *shorter))
        self.assertGreater(sum(length >= 3 for length in lengths), 20)

    def test_parting_is_shortest(self):
        chance = rng(655)
        texts = {many: patterns_of_length(many) for many in (1, 2, 3)}
        met = 0
        alike = 0
        while met < 60:
            book = random_book(chance, (1, 3), 3)
            rules = list(book.rules())
            if rules and chance.random() < 0.7:
                rules.pop(chance.randrange(len(rules)))
            other = Rulebook(book.window(), book.marks(), tuple(rules)) if chance.random() < 0.8 else random_book(
                chance, (1, 3), 3)
            try:
                one, two = Machine(book), Machine(other)
            except TooMany:
                continue
            found = one.parting(two)
            if found is None:
                alike += 1
                for _ in range(20):
                    self.assertIsNone(told_apart(book, other, *equal_texts(chance, 12, 3)))
                if met < 30:
                    tables = (one.stands(), one.arrows()), (two.stands(), two.arrows())
                    if len(tables[0][0]) + len(tables[1][0]) < 50:
                        self.assertEqual(slow_least(tables)[(1, 0)], (0, 0))
                continue
            met += 1
            left, right = found
            self.assertIsInstance(left, tuple)
            self.assertEqual(len(left), len(right))
            self.assertEqual(told_apart(book, other, left, right), len(left) - 1)
            for many in range(1, min(len(left), 4)):
                for shorter in texts[many]:
                    self.assertIsNone(told_apart(book, other, *shorter))
        self.assertGreater(alike, 3)


if __name__ == "__main__":
    unittest.main()
