import unittest

from helpers import Graph, odd_values, rng, slow_price
from saidearly.errors import NoStand, NotAWalk, TooMany, Wrong
from saidearly.letters import is_text
from saidearly.patterns import pattern_of, ticks
from saidearly.prices import Prices
from saidearly.rings import greatest_loss, heights, is_bounded, worst_ring
from saidearly.lossjudge import bound_by, is_height_table, is_ring, mean_of
from saidearly.rulebooks import Rulebook
from saidearly.shown import texts_of, texts_round
from saidearly.speakers import spoken
from saidearly.versus import VersusTable, dearer, same_scripts
from test_machines import patterns_of_length
from test_rulebooks import KEEP, SAME, rule
from test_ruletext import random_book
from test_speakers import PAIRS, SlowSpeaker, equal_texts, slow_rest, slow_spoken

FIRST = (0, 0, ((0, 0), (0, 0)), ((), ()))
NOTHING = Rulebook(1, 1, ())
LIKE = Rulebook(1, 1, (KEEP,))
# More than 600 stands can be reached with it.
DEEP = Rulebook(4, 3, ((0, (("same", 2, 0), ("many", "right", 4)), "dp", 2),
                       (None, (("many", "left", 4), ("twin", "left", 1, 3)), "pdd", 1)))


def price_of(script, pair):
    return script.count("d") * pair[0] + script.count("p") * pair[1]


class SlowVersus:
    """The table of [81] by real texts and slow speakers; count is that of which there are too many."""

    def __init__(self, book, other, pair):
        self.books = (book, other)
        self.pair = pair
        self.stands, self.texts, self.arrows, self.count = [FIRST], [((), ())], [], None
        at = 0
        while at < len(self.stands) and self.count is None:
            self.leave(at)
            at += 1

    def told(self, left, right):
        """The stand behind two texts, and the price so far of the one less that of the other."""
        pair = []
        for book in self.books:
            pair.append(SlowSpeaker(book))
            for x, y in zip(left, right):
                pair[-1].tick(x, y)
        waits = tuple((len(speaker.waits["left"]), len(speaker.waits["right"])) for speaker in pair)
        many = max(waits[0][0], waits[1][0]), max(waits[0][1], waits[1][1])
        stand = (pair[0].mark, pair[1].mark, waits,
                 pattern_of(left[len(left) - many[0]:], right[len(right) - many[1]:]))
        return stand, price_of(pair[0].said, self.pair) - price_of(pair[1].said, self.pair)

    def leave(self, at):
        left, right = self.texts[at]
        stand, paid = self.told(left, right)
        numbers = stand[3]
        last = left[len(left) - len(numbers[0]):] + right[len(right) - len(numbers[1]):]
        letters = list(dict.fromkeys(last)) + [letter for letter in range(200) if letter not in left + right][:2]
        for x, y in ticks(numbers):
            grown = left + (letters[x],), right + (letters[y],)
            behind, more = self.told(*grown)
            if behind not in self.stands:
                if len(self.stands) == 600:
                    self.count = 601
                    return
                self.stands.append(behind)
                self.texts.append(grown)
            if len(self.arrows) == 8000:
                self.count = 8001
                return
            self.arrows.append((at, x, y, more - paid, self.stands.index(behind)))


def small_pair(chance):
    """Two books, often alike, with a table that is not great."""
    book = random_book(chance, (1, 2), 4)
    if chance.random() < 0.5:
        rules = list(book.rules())
        if rules:
            rules.pop(chance.randrange(len(rules)))
        return book, Rulebook(book.window(), book.marks(), tuple(rules))
    return book, random_book(chance, (1, 2), 4)


class Same(unittest.TestCase):
    """[80]: same_scripts"""

    def check(self, one, other):
        """Whether they are the same; where they are not, the texts have to be shortest ones."""
        found = same_scripts(one, other)
        if found is None:
            return True
        left, right = found
        self.assertIsInstance(found, tuple)
        self.assertTrue(is_text(left) and is_text(right))
        self.assertEqual(len(left), len(right))
        for pair in ((1, 1), (1, 3)):
            self.assertNotEqual(spoken(one, pair, left, right), spoken(other, pair, left, right))
        for many in range(1, min(len(left), 4)):
            for shorter in patterns_of_length(many):
                self.assertEqual(spoken(one, (1, 1), *shorter), spoken(other, (1, 1), *shorter))
        return False

    def test_itself(self):
        chance = rng(800)
        for _ in range(40):
            book = random_book(chance, (1, 3))
            try:
                self.assertIsNone(same_scripts(book, book))
                self.assertIsNone(same_scripts(book, Rulebook(book.window(), book.marks(), book.rules())))
            except TooMany as error:
                self.assertEqual(error.count, 601)

    def test_marks_and_rules_that_do_not_matter(self):
        book = Rulebook(2, 1, (KEEP,))
        self.assertIsNone(same_scripts(book, Rulebook(2, 3, (KEEP,))))
        self.assertIsNone(same_scripts(book, Rulebook(2, 3, ((1, (), "d", 2), KEEP, (2, (), "p", 1)))))
        self.assertIsNone(same_scripts(book, Rulebook(2, 1, (KEEP, KEEP))))
        self.assertIsNone(same_scripts(Rulebook(2, 1, (KEEP, KEEP, KEEP)), book))
        # A rule that goes where another one ahead of it does, too.
        self.assertIsNone(same_scripts(book, Rulebook(2, 1, (KEEP, (0, (SAME, ("many", "left", 1)), "dp", 0)))))

    def test_other_windows(self):
        # Both say all at the end, but one waits longer.
        drop = rule((), "d"), rule((), "p")
        for window in (1, 2, 3, 4):
            self.assertIsNone(same_scripts(Rulebook(window, 1, drop), Rulebook(1, 1, drop)))
        self.assertFalse(self.check(NOTHING, Rulebook(2, 1, ())))
        self.assertEqual(same_scripts(NOTHING, Rulebook(2, 1, ())), ((0,), (0,)))
        self.assertFalse(self.check(Rulebook(2, 1, ()), Rulebook(3, 1, ())))
        self.assertEqual(len(same_scripts(Rulebook(2, 1, ()), Rulebook(3, 1, ()))[0]), 2)
        self.assertEqual(len(same_scripts(Rulebook(3, 1, ()), Rulebook(4, 1, ()))[0]), 3)

    def test_the_same_in_the_end_only(self):
        """What one says at once the other one says later: parted as machines, not as scripts."""
        one = Rulebook(3, 2, ((0, (("unlike", 0, 0),), "d", 1), (1, (), "p", 0)))
        other = Rulebook(3, 1, ((None, (("unlike", 0, 0), ("many", "left", 1)), "dp", 0),))
        self.assertIsNone(same_scripts(one, other))
        late = Rulebook(2, 1, (rule((("many", "left", 2), ("many", "right", 2)), "dpdp"),))
        self.assertFalse(self.check(late, NOTHING))
        # Letters are said with the next tick, or at the end by the cheapest script.
        soon = Rulebook(2, 1, (KEEP,))
        after = Rulebook(2, 1, ((None, (SAME, ("many", "left", 2)), "k", 0),))
        self.assertIs(self.check(soon, after), self.check(after, soon))

    def test_a_difference_at_the_end_only(self):
        one = Rulebook(2, 1, (rule((("unlike", 0, 0),), "pd"),))
        other = Rulebook(2, 1, ())
        left, right = same_scripts(one, other)
        self.assertEqual((len(left), left != right), (1, True))

    def test_shortest_against_all_short_texts(self):
        chance = rng(801)
        alike = 0
        lengths = []
        while len(lengths) < 120:
            one, other = small_pair(chance)
            try:
                found = same_scripts(one, other)
            except TooMany:
                continue
            if found is None:
                alike += 1
                for shorter in patterns_of_length(2):
                    self.assertEqual(spoken(one, (1, 1), *shorter), spoken(other, (1, 1), *shorter))
                for _ in range(30):
                    left, right = equal_texts(chance, chance.randint(0, 12), 3)
                    self.assertEqual(slow_spoken(one, (1, 1), left, right), slow_spoken(other, (1, 1), left, right))
            else:
                self.assertFalse(self.check(one, other))
                lengths.append(len(found[0]))
        self.assertGreater(alike, 20)
        self.assertGreater(sum(length >= 2 for length in lengths), 20)

    def test_differences_by_letters_of_three_ticks(self):
        """Rules that ask for much of the letters of three ticks, all of which wait."""
        chance = rng(803)
        texts = {many: patterns_of_length(many) for many in (1, 2, 3)}
        spots = [("same", i, j) for i in range(3) for j in range(3)]
        spots += [("twin", side, i, k) for side in ("left", "right") for i, k in ((0, 1), (0, 2), (1, 2))]
        late = 0
        for _ in range(60):
            equal = chance.sample(spots, chance.choice([1, 1, 2, 3]))
            unlike = [("unlike",) + spot[1:] for spot in chance.sample(spots[:9], 4 - len(equal)) if spot not in equal]
            asked = tuple(equal + unlike)
            window = chance.choice([3, 3, 4])
            one = Rulebook(window, 1, ((None, asked, chance.choice(["dp", "pd", "pdpd", "ddp"]), 0),))
            other = Rulebook(window, 1, (one.rules()[0][:2] + (chance.choice(["d", "p"]), 0),) * chance.randint(0, 1))
            short = [many for many in (1, 2, 3) if any(
                spoken(one, (1, 1), *pair) != spoken(other, (1, 1), *pair) for pair in texts[many])]
            found = same_scripts(one, other)
            if short:
                left, right = found
                self.assertEqual((len(left), len(right)), (short[0], short[0]))
                self.assertNotEqual(slow_spoken(one, (1, 1), left, right), slow_spoken(other, (1, 1), left, right))
                late += short[0] == 3
            elif found is not None:
                self.assertGreater(len(found[0]), 3)
        self.assertGreater(late, 20)

    def test_letters_that_have_waited_long(self):
        for tests in ((("same", 3, 0),), (("same", 0, 3),), (("twin", "left", 0, 3),), (("twin", "right", 0, 3),),
                      (("same", 3, 0), ("unlike", 0, 0), ("unlike", 1, 0), ("unlike", 2, 0)),
                      (("same", 0, 3), ("unlike", 0, 0), ("unlike", 0, 1), ("unlike", 0, 2))):
            one, other = Rulebook(4, 1, (rule(tests, "pd"),)), Rulebook(4, 1, ())
            self.assertFalse(self.check(one, other))
            self.assertEqual(len(same_scripts(one, other)[0]), 4)

    def test_letters_that_are_all_unlike(self):
        # Where some of these are equal both say the same.
        equal = [("twin", "left", 0, 1), ("twin", "right", 0, 1), ("twin", "left", 0, 2), ("twin", "left", 1, 2),
                 ("same", 2, 0), ("same", 2, 1), SAME]
        rules = tuple(rule((test,), "dp") for test in equal)
        unlike = ("unlike", 0, 1), ("unlike", 1, 0), ("unlike", 1, 1), ("many", "left", 3)
        one, other = Rulebook(3, 1, rules + (rule(unlike, "pppd"),)), Rulebook(3, 1, rules)
        self.assertFalse(self.check(one, other))
        left, right = same_scripts(one, other)
        self.assertEqual((len(left), len(set(left + right[:2]))), (3, 5))

    def test_either_way(self):
        chance = rng(802)
        for _ in range(60):
            one, other = small_pair(chance)
            found, turned = same_scripts(one, other), same_scripts(other, one)
            self.assertEqual(found is None, turned is None)
            if found is not None:
                self.assertEqual(len(found[0]), len(turned[0]))

    def test_late_differences(self):
        """A book that counts ticks by marks and then keeps."""
        steps = ((0, (("unlike", 0, 0),), "dp", 1), (1, (("unlike", 0, 0),), "dp", 2), (2, (SAME,), "k", 0))
        one = Rulebook(1, 3, steps)
        left, right = same_scripts(one, Rulebook(1, 3, steps[:2]))
        self.assertEqual(len(left), 3)
        self.assertEqual(left[2], right[2])
        self.check(one, Rulebook(1, 3, steps[:2]))

    def test_too_many(self):
        """Where it cannot tell it says so; what it tells ahead of that stays right."""
        with self.assertRaises(TooMany) as caught:
            same_scripts(DEEP, DEEP)
        self.assertEqual(caught.exception.count, 601)
        self.assertFalse(self.check(DEEP, NOTHING))
        self.assertIsNone(same_scripts(Rulebook(4, 1, ()), Rulebook(4, 1, ())))


class Tables(unittest.TestCase):
    """[81]: VersusTable"""

    def check(self, one, other, pair):
        slow = SlowVersus(one, other, pair)
        if slow.count is not None:
            with self.assertRaises(TooMany) as caught:
                VersusTable(one, other, pair)
            self.assertEqual(caught.exception.count, slow.count)
            return None
        table = VersusTable(one, other, pair)
        self.assertEqual(table.stands(), slow.stands)
        self.assertEqual(table.arrows(), slow.arrows)
        return table

    def test_the_least_table(self):
        table = VersusTable(NOTHING, NOTHING, (1, 2))
        self.assertEqual((table.stands(), table.arrows()), ([FIRST], [(0, 0, 0, 0, 0), (0, 0, 1, 0, 0)]))
        table = VersusTable(NOTHING, LIKE, (1, 2))
        self.assertEqual((table.stands(), table.arrows()), ([FIRST], [(0, 0, 0, 3, 0), (0, 0, 1, 0, 0)]))
        self.assertEqual(VersusTable(LIKE, NOTHING, (1, 2)).arrows()[0], (0, 0, 0, -3, 0))

    def test_other_windows(self):
        table = VersusTable(NOTHING, Rulebook(2, 1, ()), (2, 1))
        self.assertEqual(table.stands(), [FIRST, (0, 0, ((0, 0), (1, 1)), ((0,), (0,))),
                                          (0, 0, ((0, 0), (1, 1)), ((0,), (1,)))])
        self.assertEqual(table.arrows()[:3], [(0, 0, 0, 3, 1), (0, 0, 1, 3, 2), (1, 0, 0, 0, 1)])
        self.assertEqual([table.closing(at) for at in range(3)], [0, 0, -3])
        turned = VersusTable(Rulebook(2, 1, ()), NOTHING, (2, 1))
        self.assertEqual([turned.closing(at) for at in range(3)], [0, 0, 3])

    def test_sides_that_wait_unlike(self):
        one, other = Rulebook(3, 1, (rule((), "d"),)), Rulebook(3, 1, (rule((), "p"),))
        table = self.check(one, other, (1, 2))
        self.assertIn((0, 0, ((0, 2), (2, 0)), ((0, 1), (2, 3))), table.stands())
        self.assertEqual(table.stands()[1], (0, 0, ((0, 1), (1, 0)), ((0,), (0,))))

    def test_against_real_texts(self):
        chance = rng(810)
        met = 0
        while met < 40:
            one, other = small_pair(chance)
            pair = chance.choice(PAIRS)
            try:
                if len(VersusTable(one, other, pair).stands()) > 60:
                    continue
            except TooMany:
                continue
            met += 1
            self.check(one, other, pair)

    def test_every_pair(self):
        for pair in PAIRS:
            self.check(Rulebook(2, 2, (KEEP, (0, (), "d", 1))), LIKE, pair)

    def test_too_many(self):
        marked = Rulebook(4, 2, ((0, (("many", "left", 4),), "d", 1), (1, (("many", "left", 4),), "d", 0)))
        for one, other, count in ((marked, NOTHING, 8001), (DEEP, NOTHING, 601), (NOTHING, DEEP, 601)):
            for call in (VersusTable, dearer):
                with self.assertRaises(TooMany) as caught:
                    call(one, other, (1, 2))
                self.assertEqual(caught.exception.count, count)
            self.assertEqual(SlowVersus(one, other, (1, 2)).count, count)

    def test_wrong_arguments(self):
        def refused(place, *arguments):
            for call in (VersusTable, dearer):
                with self.assertRaises(Wrong) as caught:
                    call(*arguments)
                self.assertEqual(caught.exception.place, place)

        for thing in odd_values() + [(1, 4), (0, 1), (True, 1), (1, True), [1, 1], (1,), (1, 1, 1), Graph(1, [])]:
            refused(0, thing, NOTHING, (1, 1))
            refused(0, thing, thing, thing)
            refused(1, NOTHING, thing, (1, 1))
            refused(1, DEEP, thing, None)
            refused(2, NOTHING, LIKE, thing)
            # Also where the table would be too large.
            refused(2, DEEP, DEEP, thing)

    def test_what_is_returned_is_new(self):
        table = VersusTable(LIKE, NOTHING, (1, 1))
        for told in (table.stands, table.arrows, lambda: table.walk((1,), (1,))):
            before = list(told())
            told().clear()
            self.assertEqual(told(), before)

    def test_closings(self):
        chance = rng(811)
        for _ in range(20):
            one, other = small_pair(chance)
            pair = chance.choice(PAIRS)
            try:
                table = VersusTable(one, other, pair)
            except TooMany:
                continue
            for at, (_, _, waits, (left, right)) in enumerate(table.stands()[:60]):
                prices = [price_of(slow_rest(left[len(left) - i:], right[len(right) - j:], pair), pair)
                          for i, j in waits]
                self.assertEqual(table.closing(at), prices[0] - prices[1])

    def test_no_stand(self):
        table = VersusTable(NOTHING, Rulebook(2, 1, ()), (1, 1))
        for thing in [-1, 3, 10 ** 39, True, False, None, "0", (0,)] + odd_values():
            if thing in (0, 1, 2) and not isinstance(thing, bool):
                continue
            with self.assertRaises(NoStand) as caught:
                table.closing(thing)
            self.assertIs(caught.exception.stand, thing)

    def test_walks(self):
        """The gains of the walk and the closing make up the difference of the prices."""
        chance = rng(812)
        met = 0
        while met < 60:
            one, other = small_pair(chance)
            pair = chance.choice(PAIRS)
            try:
                table = VersusTable(one, other, pair)
            except TooMany:
                continue
            met += 1
            left, right = equal_texts(chance, chance.randint(0, 15), 3)
            walk = table.walk(left, right)
            self.assertEqual(len(walk), len(left))
            stand = 0
            for number in walk:
                self.assertEqual(table.arrows()[number][0], stand)
                stand = table.arrows()[number][4]
            gains = sum(table.arrows()[number][3] for number in walk)
            prices = Prices({letter: pair for letter in left + right})
            paid = [slow_price(slow_spoken(book, pair, left, right), left, right, prices) for book in (one, other)]
            self.assertEqual(gains + table.closing(stand), paid[0] - paid[1])
            self.assertEqual(SlowVersus.told(Told(one, other, pair), left, right)[0], table.stands()[stand])
        self.assertEqual(VersusTable(NOTHING, LIKE, (1, 1)).walk((), ()), [])
        self.assertEqual(VersusTable(NOTHING, LIKE, (1, 1)).walk((7, 7, 9), (7, 8, 9)), [0, 1, 0])

    def test_the_functions_of_73_to_77(self):
        table = VersusTable(NOTHING, LIKE, (1, 2))
        self.assertEqual(worst_ring(table), (3, 1, [0]))
        self.assertFalse(is_bounded(table))
        self.assertEqual(heights(table, 3, 1), [0])
        self.assertIsNone(heights(table, 2, 1))
        self.assertIsNone(greatest_loss(table))
        self.assertTrue(is_height_table(table, [0], 3, 1))
        self.assertEqual(bound_by(table, [4], 3, 1), 4)
        self.assertTrue(is_ring(table, [1]))
        self.assertEqual(mean_of(table, [0]), (3, 1))
        self.assertEqual(texts_round(table, [0], 2), ((0, 1), (0, 1)))
        with self.assertRaises(NotAWalk):
            texts_of(table, [2])


class Told:
    """What SlowVersus.told asks for."""

    def __init__(self, book, other, pair):
        self.books = (book, other)
        self.pair = pair


class Dearer(unittest.TestCase):
    """[81]: dearer"""

    def test_some(self):
        self.assertEqual(dearer(NOTHING, NOTHING, (1, 2)), 0)
        self.assertEqual(dearer(LIKE, NOTHING, (1, 2)), 0)
        self.assertIsNone(dearer(NOTHING, LIKE, (1, 2)))
        # What waits is compared at the end, so that it may cost nothing.
        for pair in PAIRS:
            self.assertEqual(dearer(NOTHING, Rulebook(2, 1, ()), pair), sum(pair))
            self.assertEqual(dearer(Rulebook(2, 1, ()), NOTHING, pair), 0)
            self.assertEqual(dearer(NOTHING, Rulebook(3, 1, ()), pair), 2 * sum(pair))

    def test_the_difference_is_never_below_0_at_the_most(self):
        # Empty texts cost both the same.
        chance = rng(813)
        below = 0
        for _ in range(80):
            one, other = small_pair(chance)
            try:
                found = dearer(one, other, (1, 1))
            except TooMany:
                continue
            if found is not None:
                self.assertGreaterEqual(found, 0)
            table = VersusTable(one, other, (1, 1))
            ring = worst_ring(table)
            below += ring[0] < 0
            self.assertEqual(found is None, ring[0] > 0)
        self.assertEqual(below, 0)

    def test_against_texts(self):
        chance = rng(814)
        reached = 0
        met = 0
        while met < 60:
            one, other = small_pair(chance)
            pair = chance.choice(PAIRS)
            try:
                found = dearer(one, other, pair)
            except TooMany:
                continue
            if found is None:
                table = VersusTable(one, other, pair)
                num, den, ring = worst_ring(table)
                self.assertGreater(num, 0)
                prices = [[price_of(slow_spoken(book, pair, *texts_round(table, ring, rounds)), pair)
                           for book in (one, other)] for rounds in (2, 6)]
                self.assertGreater(prices[1][0] - prices[1][1], prices[0][0] - prices[0][1])
                continue
            met += 1
            texts = texts_of(VersusTable(one, other, pair), greatest_loss(VersusTable(one, other, pair))[1])
            paid = [price_of(slow_spoken(book, pair, *texts), pair) for book in (one, other)]
            self.assertEqual(paid[0] - paid[1], found)
            for many in (1, 2):
                for left, right in patterns_of_length(many):
                    paid = [price_of(spoken(book, pair, left, right), pair) for book in (one, other)]
                    self.assertLessEqual(paid[0] - paid[1], found)
            reached += found > 0
        self.assertGreater(reached, 3)

    def test_errors(self):
        with self.assertRaises(TooMany) as caught:
            dearer(Rulebook(4, 1, ()), NOTHING, (1, 2))
        table = VersusTable(Rulebook(4, 1, ()), NOTHING, (1, 2))
        self.assertEqual(caught.exception.count, len(table.stands()) * len(table.arrows()))


if __name__ == "__main__":
    unittest.main()
