import itertools
import unittest

from helpers import all_scripts, odd_values, rng, slow_allowed, slow_least, slow_price, texts_up_to
from saidearly.errors import NoStand, NotSent, TooMany, Wrong
from saidearly.gains import GainTable, loss_of
from saidearly.patterns import pattern_of, ticks
from saidearly.prices import Prices
from saidearly.rulebooks import Rulebook
from saidearly.senders import Sender, free_sender
from saidearly.speakers import Speaker
from test_rulebooks import KEEP
from test_ruletext import random_book
from test_senders import ANY, LOOP, NEW, TICK, random_sender, sent, slow_places
from test_speakers import PAIRS, SlowSpeaker, equal_texts, slow_rest, slow_spoken

FIRST = (0, 0, (0, 0), ((), ()), (0,))


def priced(pair, *texts):
    return Prices({letter: pair for text in texts for letter in text})


def slow_loss(book, pair, lag, left, right):
    script = slow_spoken(book, pair, left, right)
    return (script.count("d") * pair[0] + script.count("p") * pair[1]
            - slow_least(left, right, priced(pair, left, right), ("lag", lag)))


def rim_worths(left, right, pair, lag):
    """The D of the rim points of two texts of equal length, in their order."""
    t = len(left)
    spots = [(i, t) for i in range(t + 1)] + [(t, j) for j in reversed(range(t))]
    found = [slow_least(left[:i], right[:j], priced(pair, left, right), ("lag", lag)) for i, j in spots]
    return [worth for worth in found if worth is not None]


class SlowTable:
    """The table of [71], each stand with some texts that lead to it; count is that of which there are too many."""

    def __init__(self, book, pair, lag, sender):
        self.rule = (book, pair, lag, sender)
        self.memory = max(book.window() - 1, lag, sender.span())
        self.stands = [FIRST]
        self.texts = [((), ())]
        self.arrows = []
        self.count = None
        at = 0
        while at < len(self.stands) and self.count is None:
            self.leave(at)
            at += 1

    def told(self, place, left, right):
        """The stand behind two texts, and what was paid and the D of the corner."""
        book, pair, lag, _ = self.rule
        speaker = SlowSpeaker(book)
        for x, y in zip(left, right):
            speaker.tick(x, y)
        worths = rim_worths(left, right, pair, lag)
        corner = slow_least(left, right, priced(pair, left, right), ("lag", lag))
        mark, on_left, on_right = speaker.stand()
        first = max(0, len(left) - self.memory)
        stand = (place, mark, (len(on_left), len(on_right)), pattern_of(left[first:], right[first:]),
                 tuple(worth - corner for worth in worths))
        return stand, speaker.said.count("d") * pair[0] + speaker.said.count("p") * pair[1], corner

    def leave(self, at):
        left, right = self.texts[at]
        sender = self.rule[3]
        place, _, _, pattern, _ = self.stands[at]
        _, paid, corner = self.told(place, left, right)
        last = left[max(0, len(left) - self.memory):], right[max(0, len(right) - self.memory):]
        letters = sorted(set(last[0] + last[1]), key=(last[0] + last[1]).index)
        letters += [letter for letter in range(200) if letter not in left + right][:2]
        for x, y, to in sender.moves(place, pattern):
            grown = left + (letters[x],), right + (letters[y],)
            stand, more, further = self.told(to, *grown)
            if stand not in self.stands:
                if len(self.stands) == 600:
                    self.count = 601
                    return
                self.stands.append(stand)
                self.texts.append(grown)
            if len(self.arrows) == 8000:
                self.count = 8001
                return
            self.arrows.append((at, x, y, more - paid - further + corner, self.stands.index(stand)))


def slow_walks(table, left, right):
    """All walks of two texts, by the patterns of their last letters and the stands."""
    walks = [([], 0)]
    for at in range(len(left)):
        more = []
        for walk, stand in walks:
            many = len(table.stands()[stand][3][0])
            numbers = pattern_of(left[at - many:at] + right[at - many:at] + (left[at], right[at]), ())[0][-2:]
            for number, arrow in enumerate(table.arrows()):
                if arrow[0] == stand and arrow[1:3] == numbers:
                    more.append((walk + [number], arrow[4]))
        walks = more
    return [walk for walk, _ in walks]


class Losses(unittest.TestCase):
    """[70]: loss_of"""

    def test_some(self):
        self.assertEqual(loss_of(Rulebook(1, 1, ()), (1, 1), 1, (), ()), 0)
        self.assertEqual(loss_of(Rulebook(1, 1, ()), (2, 3), 1, (1, 2), (1, 2)), 10)
        self.assertEqual(loss_of(Rulebook(1, 1, (KEEP,)), (2, 3), 1, (1, 2), (1, 2)), 0)
        self.assertEqual(loss_of(Rulebook(1, 1, (KEEP,)), (2, 3), 1, (1, 2), (2, 1)), 5)
        self.assertEqual(loss_of(Rulebook(2, 1, (KEEP,)), (2, 3), 1, (1, 2), (2, 1)), 0)

    def test_a_loss_may_be_negative(self):
        # All that waits is compared at the end without a lag.
        book = Rulebook(4, 1, ())
        self.assertEqual(loss_of(book, (1, 1), 1, (1, 2, 3), (3, 4, 5)), 4 - 6)
        self.assertEqual(loss_of(book, (1, 1), 2, (1, 2, 3), (3, 4, 5)), 0)

    def test_by_its_words(self):
        chance = rng(700)
        for pair in PAIRS:
            for lag in (1, 2):
                for _ in range(6):
                    book = random_book(chance)
                    left, right = equal_texts(chance, chance.randint(0, 10), 3)
                    self.assertEqual(loss_of(book, pair, lag, left, right), slow_loss(book, pair, lag, left, right))

    def test_against_all_scripts(self):
        book = Rulebook(2, 1, (KEEP,))
        for left, right in itertools.product(texts_up_to(3, 2), repeat=2):
            if len(left) == len(right):
                prices = priced((1, 2), left, right)
                speaker = Speaker(book, (1, 2))
                for x, y in zip(left, right):
                    speaker.tick(x, y)
                speaker.finish()
                least = min(slow_price(script, left, right, prices) for script in all_scripts(left, right)
                            if slow_allowed(script, ("lag", 1)))
                self.assertEqual(loss_of(book, (1, 2), 1, left, right), speaker.paid() - least)


class Tables(unittest.TestCase):
    """[71]: stands, arrows, TooMany"""

    def check(self, book, pair, lag, sender):
        """The same table by speakers and leasts of real texts."""
        slow = SlowTable(book, pair, lag, sender)
        if slow.count is not None:
            with self.assertRaises(TooMany) as caught:
                GainTable(book, pair, lag, sender)
            self.assertEqual(caught.exception.count, slow.count)
            return None
        table = GainTable(book, pair, lag, sender)
        self.assertEqual(table.stands(), slow.stands)
        self.assertEqual(table.arrows(), slow.arrows)
        return table

    def test_the_first_stand(self):
        for lag in (1, 2):
            table = GainTable(Rulebook(1, 1, ()), (1, 1), lag, Sender(1, 1, ((0, ("left", 1), ANY, 0),), ()))
            self.assertEqual((table.stands(), table.arrows(), table.closing(0)), ([FIRST], [], 0))

    def test_a_small_table(self):
        # Each tick brings two equal new letters, and the book keeps them.
        sender = Sender(1, 1, ((0, NEW, TICK, 0),), (0,))
        table = GainTable(Rulebook(1, 1, (KEEP,)), (2, 3), 1, sender)
        behind = (0, 0, (0, 0), ((0,), (0,)), (3, 0, 2))
        self.assertEqual(table.stands(), [FIRST, behind])
        self.assertEqual(table.arrows(), [(0, 0, 0, 0, 1), (1, 1, 1, 0, 1)])
        table = GainTable(Rulebook(1, 1, ()), (2, 3), 2, sender)
        self.assertEqual(table.stands()[2], (0, 0, (0, 0), ((0, 1), (0, 1)), (6, 3, 0, 2, 4)))
        self.assertEqual(table.arrows(), [(0, 0, 0, 5, 1), (1, 1, 1, 5, 2), (2, 0, 0, 5, 2), (2, 2, 2, 5, 2)])

    def test_sizes_of_free_tables(self):
        for window, lag, stands, arrows in ((1, 1, 7, 47), (2, 1, 7, 47), (1, 2, 135, 1711), (3, 1, 28, 324)):
            table = GainTable(Rulebook(window, 1, ()), (1, 2), lag, free_sender())
            self.assertEqual((len(table.stands()), len(table.arrows())), (stands, arrows))

    def test_every_pair_and_lag(self):
        chance = rng(710)
        for pair in PAIRS:
            self.check(random_book(chance, (1, 2)), pair, 1, free_sender())
            self.check(random_book(chance, (1, 3), 3), pair, 2, Sender(2, 1, (
                (0, NEW, TICK, 1), (1, ("left", 1), NEW, 0), (1, NEW, ("left", 1), 1)), (0,)))

    def test_free_with_a_lag_of_2(self):
        self.assertIsNotNone(self.check(Rulebook(2, 1, (KEEP,)), (1, 1), 2, free_sender()))

    def test_against_real_texts(self):
        chance = rng(711)
        met = 0
        while met < 60:
            sender = random_sender(chance, 3, 2, 4)
            book, lag = random_book(chance, (1, 3), 4), chance.choice([1, 2])
            try:
                if len(GainTable(book, (1, 2), lag, sender).stands()) > 60:
                    continue
            except TooMany:
                continue
            met += 1
            self.check(book, chance.choice(PAIRS), lag, sender)

    def test_what_is_remembered(self):
        """The greatest of the window less 1, the lag and the span."""
        for window, lag, span, memory in ((1, 1, 1, 1), (4, 1, 1, 3), (1, 2, 1, 2), (1, 1, 4, 4), (3, 2, 2, 2),
                                          (4, 2, 3, 3), (2, 1, 3, 3)):
            table = GainTable(Rulebook(window, 1, ()), (1, 1), lag, Sender(1, span, ((0, NEW, TICK, 0),), ()))
            self.assertEqual(max(len(stand[3][0]) for stand in table.stands()), memory)
            self.assertEqual(table.stands()[-1][3], (tuple(range(memory)), tuple(range(memory))))

    def test_too_many(self):
        """Both causes; which one comes first is told by real texts."""
        marked = Rulebook(4, 2, ((0, (("many", "left", 4),), "d", 1), (1, (("many", "left", 4),), "d", 0)))
        for arguments, count in (((Rulebook(4, 1, ()), (1, 2), 2, free_sender()), 601),
                                 ((marked, (1, 2), 1, free_sender()), 8001)):
            self.assertEqual(SlowTable(*arguments).count, count)
            with self.assertRaises(TooMany) as caught:
                GainTable(*arguments)
            self.assertEqual(caught.exception.count, count)

    def test_what_is_returned_is_new(self):
        table = GainTable(Rulebook(1, 1, ()), (1, 1), 1, free_sender())
        for told in (table.stands, table.arrows, lambda: table.walk((1, 1), (1, 1))):
            before = list(told())
            told().clear()
            self.assertEqual(told(), before)

    def test_wrong_arguments(self):
        good = [Rulebook(1, 1, ()), (1, 1), 1, free_sender()]

        def refused(place, *arguments):
            with self.assertRaises(Wrong) as caught:
                GainTable(*arguments)
            self.assertEqual(caught.exception.place, place)

        for thing in odd_values() + [(1, 4), (0, 1), (True, 1), [1, 1], (1,), 3, -1, "1", free_sender(), good[0]]:
            if not isinstance(thing, Rulebook):
                refused(0, thing, *good[1:])
                refused(0, thing, None, None, None)
            refused(1, good[0], thing, *good[2:])
            refused(1, good[0], thing, thing, thing)
            if not (thing in (1, 2) and not isinstance(thing, bool)):
                refused(2, *good[:2], thing, good[3])
                refused(2, *good[:2], thing, None)
            if not isinstance(thing, Sender):
                refused(3, *good[:3], thing)


class Closings(unittest.TestCase):
    """[71]: closing"""

    def test_every_stand(self):
        chance = rng(712)
        for _ in range(12):
            pair = chance.choice(PAIRS)
            try:
                table = GainTable(random_book(chance, (2, 3), 3), pair, 1, free_sender())
            except TooMany:
                continue
            for number, (_, _, waits, (left, right), _) in enumerate(table.stands()):
                script = slow_rest(left[len(left) - waits[0]:], right[len(right) - waits[1]:], pair)
                self.assertEqual(table.closing(number), script.count("d") * pair[0] + script.count("p") * pair[1])

    def test_no_stand(self):
        table = GainTable(Rulebook(1, 1, ()), (1, 1), 1, free_sender())
        many = len(table.stands())
        for thing in [-1, many, 10 ** 39, True, False, None, "0", (0,)] + odd_values():
            if thing in range(many) and not isinstance(thing, bool):
                continue
            with self.assertRaises(NoStand) as caught:
                table.closing(thing)
            self.assertIs(caught.exception.stand, thing)
        self.assertEqual([table.closing(number) for number in range(many)], [0] * many)


class Walks(unittest.TestCase):
    """[71], [72]: walk"""

    def test_empty_texts(self):
        self.assertEqual(GainTable(Rulebook(1, 1, ()), (1, 1), 1, free_sender()).walk((), ()), [])
        self.assertEqual(GainTable(Rulebook(1, 1, ()), (1, 1), 1, Sender(1, 1, (LOOP,), ())).walk((), ()), [])

    def test_not_sent(self):
        table = GainTable(Rulebook(1, 1, ()), (1, 1), 1, Sender(2, 1, ((0, NEW, TICK, 1), (1, ("left", 1), NEW, 0)), ()))
        self.assertEqual(len(table.walk((1, 1, 3), (1, 2, 3))), 3)
        for left, right, at in [((1,), (2,), 0), ((1, 2), (1, 2), 1), ((1, 1, 1), (1, 2, 1), 2), ((1, 1), (1, 1), 1),
                                ((1, 1, 3, 4, 4), (1, 2, 3, 4, 5), 3), ((5, 6, 7), (6, 6, 6), 0)]:
            with self.assertRaises(NotSent) as caught:
                table.walk(left, right)
            self.assertEqual(caught.exception.at, at)

    def test_the_ends_do_not_matter(self):
        table = GainTable(Rulebook(1, 1, ()), (1, 1), 1, Sender(1, 1, (LOOP,), ()))
        self.assertEqual(len(table.walk((1, 2, 3), (3, 2, 1))), 3)

    def test_the_least_of_several(self):
        # Several runs bring the same texts.
        sender = Sender(2, 1, ((0, ANY, ANY, 0), (0, ANY, ANY, 1), (1, ANY, TICK, 1)), ())
        table = GainTable(Rulebook(1, 1, (KEEP,)), (1, 2), 1, sender)
        chance = rng(713)
        for _ in range(40):
            left, right = equal_texts(chance, chance.randint(0, 5), 2)
            self.assertEqual(table.walk(left, right), min(slow_walks(table, left, right)))
        # The least arrow leads to place 1, from which no 2nd tick can come.
        dead = Sender(3, 1, ((0, ANY, ANY, 1), (0, ANY, ANY, 2), (2, ANY, ANY, 2)), ())
        table = GainTable(Rulebook(1, 1, (KEEP,)), (1, 2), 1, dead)
        walk = table.walk((1, 2), (2, 3))
        self.assertEqual(table.stands()[table.arrows()[walk[0]][4]][0], 2)
        self.assertEqual(table.stands()[table.arrows()[table.walk((1,), (2,))[0]][4]][0], 1)

    def test_losses_by_walks(self):
        """[72]"""
        chance = rng(720)
        met = 0
        refused = 0
        while met < 150:
            sender = chance.choice([free_sender(), random_sender(chance, 3, 2, 5)])
            book, pair, lag = random_book(chance, (1, 3), 4), chance.choice(PAIRS), chance.choice([1, 1, 2])
            try:
                table = GainTable(book, pair, lag, sender)
            except TooMany:
                continue
            for _ in range(4):
                left, right, _ = sent(chance, sender, chance.randint(0, 14))
                if chance.random() < 0.3:
                    left, right = equal_texts(chance, chance.randint(0, 6), 2)
                bad = [at for at in range(len(left)) if not slow_places(sender, left[:at + 1], right[:at + 1])]
                if bad:
                    refused += 1
                    with self.assertRaises(NotSent) as caught:
                        table.walk(left, right)
                    self.assertEqual(caught.exception.at, bad[0])
                    continue
                met += 1
                walk = table.walk(left, right)
                arrows = [table.arrows()[number] for number in walk]
                self.assertEqual([arrow[0] for arrow in arrows], ([0] + [arrow[4] for arrow in arrows])[:len(arrows)])
                stand = arrows[-1][4] if arrows else 0
                total = sum(arrow[3] for arrow in arrows) + table.closing(stand)
                self.assertEqual(total, loss_of(book, pair, lag, left, right))
                self.assertEqual(total, slow_loss(book, pair, lag, left, right))
        self.assertGreater(refused, 20)

    def test_long_texts(self):
        chance = rng(721)
        book = Rulebook(3, 1, (KEEP,))
        table = GainTable(book, (3, 1), 1, free_sender())
        left, right = equal_texts(chance, 60, 3)
        walk = table.walk(left, right)
        arrows = [table.arrows()[number] for number in walk]
        self.assertEqual(sum(arrow[3] for arrow in arrows) + table.closing(arrows[-1][4]),
                         loss_of(book, (3, 1), 1, left, right))

    def test_arrows_are_the_moves(self):
        sender = Sender(2, 2, ((0, NEW, ANY, 1), (1, ("right", 2), NEW, 0), (1, ANY, TICK, 1)), (0,))
        table = GainTable(Rulebook(2, 1, (KEEP,)), (1, 1), 1, sender)
        for number, stand in enumerate(table.stands()):
            leaving = [arrow for arrow in table.arrows() if arrow[0] == number]
            self.assertEqual([(x, y, table.stands()[target][0]) for _, x, y, _, target in leaving],
                             sender.moves(stand[0], stand[3]))
            self.assertLessEqual({(x, y) for _, x, y, _, _ in leaving}, set(ticks(stand[3])))


if __name__ == "__main__":
    unittest.main()
