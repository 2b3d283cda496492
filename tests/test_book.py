import unittest

from helpers import NONE, PLAIN, PROMISES, UNEVEN, odd_values, random_saying, random_text, rng
from saidearly.book import Book
from saidearly.comparer import Comparer
from saidearly.deltas import is_delta, of_script
from saidearly.errors import (AlreadyEnded, BeyondEnd, Broken, Contradiction, EarlyError, EndsShort, NoDeed,
                              NoSuchLetter, NotClaimed, Nothing, Stopped, Wrong)
from saidearly.extras import greatest_extra
from saidearly.lanes import Lane
from saidearly.prices import Prices
from saidearly.sayings import atoms
from saidearly.scripts import fits

LEFT = ("receive", "left", 0, (1, 2, 3))
RIGHT = ("receive", "right", 0, (1, 3))
FREE, FORCED = ("free",), ("forced",)
BEGUN = ("claim", ("begins", "k"), 0)


def told(book):
    """All that a book tells of what is so now."""
    return book.heads(), book.said(), book.delta(), book.claims(), book.log()


def done(*deeds, prices=PLAIN, promise=NONE, rooms=None):
    book = Book(prices, promise, rooms)
    for deed in deeds:
        book.do(deed)
    return book


class Shadow:
    """A book that replays its log, deed by deed, with a comparer of its own."""

    def __init__(self, prices, promise, rooms):
        self.arguments = (prices, promise, rooms)
        self.log, self.undone = [], []

    def replayed(self, log):
        """The comparer and what the last deed said, or the error that stops it."""
        comparer, steps = Comparer(*self.arguments), ""
        for deed in log:
            steps = ""
            if deed[0] == "receive":
                comparer.receive(*deed[1:])
            elif deed[0] == "close":
                comparer.close(*deed[1:])
            elif deed == FREE:
                steps = comparer.say_free()
            elif deed == FORCED:
                steps = comparer.say_forced()
            else:
                extra, _ = greatest_extra(comparer.standing(), deed[1])
                if extra is None or extra > deed[2]:
                    raise NotClaimed(extra)
        return comparer, steps

    def do(self, deed):
        _, steps = self.replayed(self.log + [deed])
        self.log.append(deed)
        self.undone = []
        return steps

    def told(self):
        comparer, _ = self.replayed(self.log)
        standing = comparer.standing()
        heads = standing.head("left"), standing.head("right")
        return (heads, comparer.said(), of_script(comparer.said(), heads[1][:comparer.reached()[1]]),
                [deed[1:] for deed in self.log if deed[0] == "claim"], self.log)


def random_deed(chance, book):
    """Some deed, often one that goes on with the heads."""
    kind = chance.randrange(8)
    if kind < 3:
        side = chance.choice(["left", "right"])
        head = book.heads()[side == "right"]
        place = len(head) if chance.random() < 0.7 else chance.randint(0, 4)
        return ("receive", side, place, random_text(chance, 3))
    if kind == 3:
        return ("close", chance.choice(["left", "right"]), chance.randint(2, 8))
    if kind < 6:
        return (FREE, FORCED)[kind - 4]
    n, m = (len(head) for head in book.heads())
    if n + m == 0 or chance.random() < 0.4:
        return ("claim", ("begins", book.said() + chance.choice(["", "k", "d"])), chance.randint(0, 3))
    further = chance.random() < 0.2
    return ("claim", random_saying(chance, n + further, m + further), chance.randint(0, 4))


class Making(unittest.TestCase):
    """[102]"""

    def test_a_new_one(self):
        for promise in PROMISES:
            book = Book(UNEVEN, promise, None)
            self.assertEqual(told(book), (((), ()), "", [], [], []))

    def test_wrong_arguments(self):
        def refused(place, *arguments):
            with self.assertRaises(Wrong) as caught:
                Book(*arguments)
            self.assertEqual(caught.exception.place, place)

        for thing in odd_values() + [("lag", 5), ("total", 61), 17, -1, {}]:
            if not isinstance(thing, Prices):
                refused(0, thing, NONE, None)
                refused(0, thing, thing, thing)
            if thing not in PROMISES:
                refused(1, PLAIN, thing, None)
                refused(1, PLAIN, thing, 17)
            if thing is not None and not (isinstance(thing, int) and not isinstance(thing, bool) and 1 <= thing <= 16):
                refused(2, PLAIN, NONE, thing)
            if thing is not None:
                refused(2, PLAIN, ("total", 5), thing)


class Doing(unittest.TestCase):
    """[102]: do"""

    def refused(self, book, deed, kind, *fields):
        before = told(book)
        with self.assertRaises(EarlyError) as caught:
            book.do(deed)
        self.assertIs(caught.exception.__class__, kind, deed)
        self.assertEqual(tuple(vars(caught.exception).values()), fields)
        self.assertEqual(told(book), before)

    def test_each_deed(self):
        book = Book(PLAIN, NONE, 2)
        self.assertEqual([book.do(deed) for deed in (LEFT, RIGHT, FREE, BEGUN, ("close", "left", 3), FORCED)],
                         ["", "", "k", "", "", "p"])
        self.assertEqual(told(book), (((1, 2, 3), (1, 3)), "kp", [("keep", 1), ("put", (3,))], [(("begins", "k"), 0)],
                                      [LEFT, RIGHT, FREE, BEGUN, ("close", "left", 3), FORCED]))
        self.assertEqual(book.do(("close", "right", 2)), "")
        self.assertEqual((book.do(FREE), book.do(FREE)), ("dd", ""))
        self.assertEqual((book.said(), book.delta()), ("kpdd", [("keep", 1), ("put", (3,)), ("drop", 2)]))

    def test_letters_that_are_put(self):
        book = done(("receive", "right", 0, (5, 6)), ("close", "left", 0), FREE)
        self.assertEqual((book.said(), book.delta()), ("pp", [("put", (5, 6))]))
        book.do(("receive", "right", 2, (7,)))
        self.assertEqual((book.do(FREE), book.delta()), ("p", [("put", (5, 6, 7))]))

    def test_pieces_behind_a_gap(self):
        book = done(("receive", "left", 2, (7,)), ("close", "left", 3))
        self.assertEqual(book.heads(), ((), ()))
        book.do(("receive", "left", 0, (5, 6)))
        self.assertEqual(book.heads(), ((5, 6, 7), ()))

    def test_what_is_no_deed(self):
        for book in (Book(PLAIN, NONE, None), done(LEFT, RIGHT, FREE)):
            for thing in odd_values() + [
                    "free", ["free"], ("Free",), ("free", 1), ("free", ()), ("forced", None), (FREE,), ("say_free",),
                    ("receive",), ("receive", "left", 0), ("receive", "left", 0, (1,), 1), ("receive", "up", 0, (1,)),
                    ("receive", "left", -1, (1,)), ("receive", "left", True, (1,)), ("receive", "left", None, ()),
                    ("receive", "left", 0, [1]), ("receive", "left", 0, (True,)), ("receive", "left", 0, (-1,)),
                    ("receive", "left", 0, "1"), ("receive", 0, 0, ()), ["receive", "left", 0, (1,)],
                    ("close",), ("close", "left"), ("close", "left", -1), ("close", "left", False),
                    ("close", "left", None), ("close", "up", 1), ("close", "left", 1, 1), ("close", "left", "1"),
                    ("claim",), ("claim", ("begins", "")), ("claim", ("begins", ""), -1),
                    ("claim", ("begins", ""), True), ("claim", ("begins", ""), None), ("claim", ("begins", ""), 0, 0),
                    ("claim", ("begins", "x"), 0), ("claim", "k", 0), ("claim", None, 0), ("claim", (), 0),
                    ("claim", ["begins", ""], 0), ("claim", ("kept", 0), 0), ("claim", ("kept", -1, 0), 0),
                    ("claim", ("not", ("begins", "")), 0), ("back",), ("again",), (), ("",), (None,), ("claims",)]:
                self.refused(book, thing, NoDeed)

    def test_a_claim_with_alone_is_none_by_its_form(self):
        book = done(LEFT, RIGHT)
        for saying in (("alone", "left", 0), ("not", ("alone", "right", 1)), ("alone", "left", 99),
                       ("or", ("begins", ""), ("alone", "left", 0)), ("and", ("kept", 9, 9), ("alone", "left", 0))):
            self.refused(book, ("claim", saying, 10), NoDeed)

    def test_errors_of_the_comparer(self):
        book = done(LEFT, RIGHT, ("close", "right", 2))
        self.refused(book, ("receive", "left", 1, (2, 4)), Contradiction, 2)
        self.refused(book, ("receive", "right", 1, (3, 4, 5)), BeyondEnd, 2)
        self.refused(book, ("close", "right", 3), AlreadyEnded, 2)
        self.refused(book, ("close", "left", 2), EndsShort, 2)
        self.refused(done(("receive", "right", 0, (1, 2)), promise=("lag", 1)), ("close", "left", 0), Broken)
        # What is no deed by its form is told first.
        self.refused(book, ("receive", "left", 1, [2, 4]), NoDeed)

    def test_great_places_and_letters(self):
        book = Book(PLAIN, NONE, None)
        self.assertEqual(book.do(("receive", "left", 10 ** 39, (10 ** 9,))), "")
        self.assertEqual(book.do(("close", "left", 10 ** 39 + 1)), "")
        self.refused(book, ("close", "left", 10 ** 39), AlreadyEnded, 10 ** 39 + 1)
        self.assertEqual(book.heads(), ((), ()))

    def test_claims(self):
        book = done(LEFT, ("receive", "right", 0, (3, 1)))
        extra, _ = greatest_extra(standing_of(book), ("kept", 0, 1))
        self.assertGreater(extra, 0)
        for most in range(extra):
            self.refused(book, ("claim", ("kept", 0, 1), most), NotClaimed, extra)
        for most in (extra, extra + 1, 10 ** 39):
            self.assertEqual(book.do(("claim", ("kept", 0, 1), most)), "")
        self.assertEqual(book.claims(), [(("kept", 0, 1), extra), (("kept", 0, 1), extra + 1),
                                         (("kept", 0, 1), 10 ** 39)])
        # No script holds these.
        self.refused(book, ("claim", ("kept", 1, 1), 10 ** 39), NotClaimed, None)
        self.refused(book, ("claim", ("begins", "k"), 5), NotClaimed, None)
        self.refused(book, ("claim", ("kept", 3, 9), 0), NoSuchLetter, "left", 3)
        self.refused(book, ("claim", ("not", ("kept", 0, 2)), 0), NoSuchLetter, "right", 2)

    def test_claims_stay_so(self):
        """Whatever comes, the extra of what was claimed stays within it."""
        chance = rng(1020)
        met = 0
        for _ in range(60):
            promise = chance.choice(PROMISES)
            book = Book(UNEVEN, promise, None)
            for _ in range(14):
                try:
                    book.do(random_deed(chance, book))
                except EarlyError:
                    continue
            standing = standing_of(book)
            for saying, most in book.claims():
                met += 1
                self.assertFalse([atom for atom in atoms(saying) if atom[0] == "alone"])
                extra, _ = greatest_extra(standing, saying)
                self.assertLessEqual(extra, most)
        self.assertGreater(met, 40)

    def test_random_deeds(self):
        chance = rng(1021)
        seen = set()
        for _ in range(60):
            arguments = chance.choice([PLAIN, UNEVEN]), chance.choice(PROMISES), None
            if arguments[1][0] != "total":
                arguments = arguments[:2] + (chance.choice([None, 1, 3]),)
            book, shadow = Book(*arguments), Shadow(*arguments)
            for _ in range(15):
                move = chance.random()
                if move < 0.2:
                    self.stepped_back(book, shadow)
                elif move < 0.35:
                    self.stepped_again(book, shadow)
                else:
                    deed = random_deed(chance, book)
                    answers = []
                    for one in (book, shadow):
                        try:
                            answers.append(one.do(deed))
                        except EarlyError as error:
                            answers.append((error.__class__, list(vars(error).values())))
                    if [atom for atom in (atoms(deed[1]) if deed[0] == "claim" else []) if atom[0] == "alone"]:
                        self.assertEqual(answers[0], (NoDeed, []))
                        if isinstance(answers[1], str):
                            shadow.log.pop()
                            shadow.undone = []
                            self.assertRaises(NoDeed, book.do, deed)
                            # A refused deed leaves what was taken back; the shadow cannot know.
                            shadow.undone = undone_of(book)
                    else:
                        self.assertEqual(answers[0], answers[1])
                        seen.add(answers[0] if isinstance(answers[0], str) and not answers[0] else answers[0][0])
                self.assertEqual(told(book), shadow.told())
                if book.said():
                    left, right = book.heads()
                    i, j = (sum(step in letters for step in book.said()) for letters in ("kd", "kp"))
                    self.assertTrue(fits(book.said(), left[:i], right[:j]))
                self.assertTrue(is_delta(book.delta()))
        self.assertTrue({"", "k", NotClaimed, NoSuchLetter, Contradiction, EndsShort} <= seen, seen)

    def stepped_back(self, book, shadow):
        if not shadow.log:
            self.assertRaises(Nothing, book.back)
            return
        shadow.undone.append(shadow.log.pop())
        self.assertEqual(book.back(), shadow.undone[-1])

    def stepped_again(self, book, shadow):
        if not shadow.undone:
            self.assertRaises(Nothing, book.again)
            return
        shadow.log.append(shadow.undone.pop())
        self.assertEqual(book.again(), shadow.log[-1])


def standing_of(book):
    """The standing of a book, from its log."""
    comparer = Comparer(book._prices, book._promise, book._rooms)
    for deed in book.log():
        if deed[0] in ("receive", "close"):
            (comparer.receive if deed[0] == "receive" else comparer.close)(*deed[1:])
    return comparer.standing()


def undone_of(book):
    """What again() would do, last ones last."""
    twin, found = book.twin(), []
    while True:
        try:
            found.append(twin.again())
        except Nothing:
            return found[::-1]


class Backwards(unittest.TestCase):
    """[102]: back, again"""

    DEEDS = [LEFT, RIGHT, FREE, BEGUN, ("close", "right", 2), FREE, ("close", "left", 3), FORCED]

    def test_every_kind_of_deed(self):
        book = Book(PLAIN, NONE, 1)
        states = [told(book)]
        for deed in self.DEEDS:
            book.do(deed)
            states.append(told(book))
        for _ in range(2):
            for at in range(len(self.DEEDS), 0, -1):
                self.assertEqual(told(book), states[at])
                self.assertEqual(book.back(), self.DEEDS[at - 1])
            self.assertEqual(told(book), states[0])
            self.assertRaises(Nothing, book.back)
            self.assertEqual(told(book), states[0])
            for at, deed in enumerate(self.DEEDS):
                self.assertEqual(book.again(), deed)
                self.assertEqual(told(book), states[at + 1])
            self.assertRaises(Nothing, book.again)
            self.assertEqual(told(book), states[-1])

    def test_nothing(self):
        book = Book(PLAIN, NONE, None)
        self.assertRaises(Nothing, book.back)
        self.assertRaises(Nothing, book.again)
        book.do(LEFT)
        self.assertRaises(Nothing, book.again)
        self.assertEqual((book.back(), book.heads()), (LEFT, ((), ())))
        self.assertRaises(Nothing, book.back)
        self.assertEqual(book.again(), LEFT)

    def test_a_new_deed_behind_back(self):
        book = done(LEFT, RIGHT, FREE)
        book.back()
        book.back()
        book.do(("receive", "right", 0, (2,)))
        self.assertRaises(Nothing, book.again)
        self.assertEqual(book.heads(), ((1, 2, 3), (2,)))
        # Also the same deed once more, and one that changes nothing.
        book = done(LEFT, RIGHT)
        book.back()
        book.do(RIGHT)
        self.assertRaises(Nothing, book.again)
        book.back()
        book.do(("receive", "left", 0, ()))
        self.assertRaises(Nothing, book.again)

    def test_again_behind_again(self):
        book = done(LEFT, RIGHT, FREE)
        self.assertEqual([book.back(), book.back(), book.again(), book.back(), book.again(), book.again()],
                         [FREE, RIGHT, RIGHT, RIGHT, RIGHT, FREE])

    def test_a_refused_deed_is_none(self):
        book = done(LEFT, RIGHT)
        book.back()
        for deed in (None, ("receive", "left", 0, (9,)), ("claim", ("kept", 0, 0), 0), ("claim", ("begins", "p"), 0)):
            self.assertRaises(EarlyError, book.do, deed)
        self.assertEqual(book.again(), RIGHT)

    def test_lanes_come_back(self):
        book = done(("receive", "left", 5, (1,)))
        book.back()
        book.do(("close", "left", 2))
        book.do(("receive", "left", 0, (4, 4)))
        self.assertEqual(book.do(("close", "right", 0)), "")
        self.assertEqual(book.do(FREE), "dd")


class Twins(unittest.TestCase):
    """[102]: twin, trial"""

    def test_twin(self):
        book = done(LEFT, RIGHT, FREE, BEGUN)
        book.back()
        twin = book.twin()
        self.assertIsInstance(twin, Book)
        self.assertTrue(twin == book)
        self.assertEqual(told(twin), told(book))
        # With what was taken back, and each goes on by itself.
        self.assertEqual(twin.again(), BEGUN)
        self.assertEqual(book.claims(), [])
        self.assertEqual(book.again(), BEGUN)
        self.assertEqual((twin.back(), twin.back(), twin.said(), book.said()), (BEGUN, FREE, "", "k"))
        twin.do(("receive", "right", 2, (5, 5, 5)))
        self.assertEqual(book.heads(), ((1, 2, 3), (1, 3)))
        book.back()
        book.back()
        book.back()
        self.assertEqual((book.heads(), twin.heads()), (((1, 2, 3), ()), ((1, 2, 3), (1, 3, 5, 5, 5))))
        self.assertEqual(told(twin), (((1, 2, 3), (1, 3, 5, 5, 5)), "", [], [],
                                      [LEFT, RIGHT, ("receive", "right", 2, (5, 5, 5))]))

    def test_twins_that_go_back_and_on_by_turns(self):
        book = done(LEFT, RIGHT, FREE)
        twin = book.twin()
        book.back()
        twin.back()
        book.do(("receive", "left", 3, (7,)))
        twin.do(("receive", "left", 3, (8,)))
        self.assertEqual((book.heads()[0], twin.heads()[0]), ((1, 2, 3, 7), (1, 2, 3, 8)))
        twin.back()
        self.assertEqual((book.heads()[0], twin.heads()[0]), ((1, 2, 3, 7), (1, 2, 3)))
        self.assertEqual((book.do(FREE), twin.do(FREE)), ("k", "k"))

    def test_trial(self):
        book = done(LEFT)
        before = told(book)
        trial = book.trial([RIGHT, FREE, BEGUN])
        self.assertIsInstance(trial, Book)
        self.assertEqual((trial.said(), trial.log()), ("k", [LEFT, RIGHT, FREE, BEGUN]))
        self.assertEqual(told(book), before)
        self.assertEqual([trial.back(), trial.back(), trial.back(), trial.back()], [BEGUN, FREE, RIGHT, LEFT])
        self.assertEqual(told(book), before)

    def test_a_trial_of_nothing(self):
        book = done(LEFT, RIGHT)
        book.back()
        trial = book.trial([])
        self.assertTrue(trial == book)
        self.assertEqual(trial.again(), RIGHT)
        self.assertEqual(told(book)[0], ((1, 2, 3), ()))
        # Behind deeds there is nothing to do again.
        self.assertRaises(Nothing, book.trial([FREE]).again)
        self.assertEqual(book.again(), RIGHT)

    def test_one_refused_at_each_place(self):
        book = done(LEFT)
        book.do(RIGHT)
        book.back()
        before = told(book)
        good = [RIGHT, FREE, BEGUN, ("close", "left", 3)]
        for at in range(len(good) + 1):
            for bad in [("receive", "left", 0, (9,)), ("close", "left", 1), ("claim", ("begins", "kk"), 10 ** 9),
                        ("claim", ("kept", 8, 8), 0), ("claim", ("alone", "left", 0), 0)] + odd_values():
                with self.assertRaises(Stopped) as caught:
                    book.trial(good[:at] + [bad] + good[at:])
                self.assertEqual(caught.exception.index, at)
        self.assertEqual(told(book), before)
        self.assertEqual(book.again(), RIGHT)

    def test_the_first_one_that_is_refused(self):
        with self.assertRaises(Stopped) as caught:
            Book(PLAIN, NONE, None).trial([LEFT, None, None])
        self.assertEqual(caught.exception.index, 1)

    def test_lists_are_not_changed(self):
        deeds = [LEFT, RIGHT]
        Book(PLAIN, NONE, None).trial(deeds)
        self.assertEqual(deeds, [LEFT, RIGHT])


class Equal(unittest.TestCase):
    """[102]: =="""

    def test_unlike_logs(self):
        whole = done(LEFT, RIGHT)
        pieces = done(("receive", "right", 1, (3,)), ("receive", "left", 2, (3,)), ("receive", "left", 0, (1, 2)),
                      ("receive", "right", 0, (1,)), FORCED)
        self.assertTrue(whole == pieces)
        self.assertFalse(whole != pieces)
        self.assertNotEqual(whole.log(), pieces.log())
        whole.do(FREE)
        self.assertFalse(whole == pieces)
        pieces.do(FREE)
        self.assertTrue(whole == pieces)
        # What was taken back does not matter.
        whole.do(BEGUN)
        self.assertFalse(whole == pieces)
        whole.back()
        self.assertTrue(whole == pieces)

    def test_arguments(self):
        self.assertTrue(Book(Prices({1: (1, 1)}), NONE, 3) == Book(PLAIN, NONE, 3))
        for other in (Book(UNEVEN, NONE, 3), Book(PLAIN, ("lag", 1), 3), Book(PLAIN, NONE, None), Book(PLAIN, NONE, 4)):
            self.assertFalse(Book(PLAIN, NONE, 3) == other)

    def test_lanes(self):
        self.assertFalse(done(LEFT) == done())
        self.assertFalse(done(("receive", "left", 1, (5,))) == done())
        self.assertFalse(done(("close", "left", 5)) == done())
        self.assertFalse(done(("receive", "left", 0, (1,))) == done(("receive", "right", 0, (1,))))
        self.assertTrue(done(("receive", "left", 4, ())) == done())

    def test_claims(self):
        one = done(LEFT, RIGHT, ("claim", ("begins", "k"), 0), ("claim", ("begins", "k"), 1))
        other = done(LEFT, RIGHT, ("claim", ("begins", "k"), 1), ("claim", ("begins", "k"), 0))
        self.assertFalse(one == other)
        other.back()
        other.back()
        other.do(("claim", ("begins", "k"), 0))
        self.assertFalse(one == other)
        other.do(("claim", ("begins", "k"), 1))
        self.assertTrue(one == other)

    def test_nothing_else(self):
        book = Book(PLAIN, NONE, None)
        for thing in odd_values() + [Comparer(PLAIN, NONE, None), Lane()]:
            self.assertFalse(book == thing)
            self.assertTrue(book != thing)

    def test_what_is_returned_may_be_changed(self):
        book = done(LEFT, RIGHT, FREE, BEGUN)
        before = told(book)
        for call in (book.delta, book.claims, book.log):
            call().clear()
        self.assertEqual(told(book), before)


if __name__ == "__main__":
    unittest.main()
