import itertools
import unittest

from helpers import odd_values, rng
from saidearly.errors import BadArrow, EarlyError, Wrong
from saidearly.patterns import pattern_of, ticks
from saidearly.senders import Sender, free_sender
from test_speakers import equal_texts

ANY, NEW, TICK = ("any",), ("new",), ("tick",)
LOOP = (0, ANY, ANY, 0)


def slow_brings(told, span, left, right, letter, tick_letter=None):
    """Whether a letter is as an arrow tells it behind two texts; by the words of [66]."""
    if told == ANY:
        return True
    if told == NEW:
        last = [text[at] for text in (left, right) for at in range(len(text)) if at >= len(text) - span]
        return letter not in last and letter != tick_letter
    if told == TICK:
        return letter == tick_letter
    text = {"left": left, "right": right}[told[0]]
    at = len(text) - told[1]
    return at >= 0 and text[at] == letter


def slow_places(sender, left, right):
    """All places at which a run can be behind two texts."""
    places = {0}
    for at, (x, y) in enumerate(zip(left, right)):
        a, b = left[:at], right[:at]
        places = {arrow[3] for arrow in sender.arrows() if arrow[0] in places
                  and slow_brings(arrow[1], sender.span(), a, b, x)
                  and slow_brings(arrow[2], sender.span(), a, b, y, x)}
    return places


def random_sender(chance, most_places=3, most_span=3, most_arrows=5):
    places, span = chance.randint(1, most_places), chance.randint(1, most_span)

    def telling(is_right):
        kinds = [ANY, NEW, ("left", chance.randint(1, span)), ("right", chance.randint(1, span))]
        return chance.choice(kinds + [TICK] * (2 * is_right))

    arrows = tuple((chance.randrange(places), telling(False), telling(True), chance.randrange(places))
                   for _ in range(chance.randint(1, most_arrows)))
    ends = tuple(place for place in range(places) if chance.random() < 0.6)
    return Sender(places, span, arrows, ends)


def sent(chance, sender, many):
    """Texts of at most so many ticks that some run brings, and the places of the run."""
    left, right, place = (), (), 0
    for _ in range(many):
        ways = [(x, y, to) for x in range(5) for y in range(5) for frm, a, b, to in sender.arrows()
                if frm == place and slow_brings(a, sender.span(), left, right, x)
                and slow_brings(b, sender.span(), left, right, y, x)]
        if not ways:
            break
        x, y, place = chance.choice(ways)
        left, right = left + (x,), right + (y,)
    return left, right, place


class Making(unittest.TestCase):
    """[67], [R]"""

    def refused(self, kind, number, *arguments):
        with self.assertRaises(EarlyError) as caught:
            Sender(*arguments)
        self.assertIs(caught.exception.__class__, kind, arguments)
        self.assertEqual(list(vars(caught.exception).values()), [number], arguments)

    def bad(self, arrow, places=2, span=2):
        self.refused(BadArrow, 0, places, span, (arrow,), ())
        self.refused(BadArrow, 1, places, span, (LOOP, arrow, arrow), ())

    def test_what_it_returns(self):
        arrows = (LOOP, (0, ("left", 2), TICK, 1))
        sender = Sender(2, 3, arrows, (0, 1))
        self.assertEqual((sender.places(), sender.span(), sender.arrows(), sender.ends()), (2, 3, arrows, (0, 1)))
        self.assertEqual(Sender(1, 1, (LOOP,), ()).ends(), ())

    def test_places_and_spans(self):
        for places in range(1, 7):
            for span in range(1, 5):
                sender = Sender(places, span, (LOOP,), (places - 1,))
                self.assertEqual((sender.places(), sender.span()), (places, span))
        for thing in [0, 7, -1, True, False, None, "1"] + odd_values():
            if thing == 1 and not isinstance(thing, bool):
                continue
            self.refused(Wrong, 0, thing, 1, (LOOP,), ())
            self.refused(Wrong, 0, thing, None, None, None)
        for thing in [0, 5, -1, True, False, None, "1"] + odd_values():
            if thing == 1 and not isinstance(thing, bool):
                continue
            self.refused(Wrong, 1, 1, thing, (LOOP,), ())
            self.refused(Wrong, 1, 1, thing, (), (9,))

    def test_arrows_as_a_whole(self):
        self.assertEqual(len(Sender(1, 1, (LOOP,) * 12, ()).arrows()), 12)
        self.refused(Wrong, 2, 1, 1, (LOOP,) * 13, ())
        self.refused(Wrong, 2, 1, 1, (), ())
        self.refused(Wrong, 2, 1, 1, [LOOP], ())
        for thing in odd_values():
            if not isinstance(thing, tuple) or not 1 <= len(thing) <= 12:
                self.refused(Wrong, 2, 1, 1, thing, (5,))
            else:
                self.refused(BadArrow, 0, 1, 1, thing, ())
                self.refused(Wrong, 3, 1, 1, thing, (1,))

    def test_ends(self):
        for ends in [(), (0,), (1,), (0, 1), (0, 2), (0, 1, 2)]:
            self.assertEqual(Sender(3, 1, (LOOP,), ends).ends(), ends)
        for ends in [(3,), (-1,), (1, 0), (0, 0), (0, 3), [0], 0, None, (True,), (0, True), (False,), ("0",), ((0,),)]:
            self.refused(Wrong, 3, 3, 1, (LOOP,), ends)
            # Ends come before arrows.
            self.refused(Wrong, 3, 3, 1, (None,), ends)
        for thing in odd_values():
            if thing not in [(), (0,)] or isinstance(thing, bool):
                self.refused(Wrong, 3, 1, 1, (LOOP,), thing)

    def test_forms_of_arrows(self):
        for arrow in [[0, ANY, ANY, 0], (0, ANY, ANY), (0, ANY, ANY, 0, 0), (2, ANY, ANY, 0), (0, ANY, ANY, 2),
                      (-1, ANY, ANY, 0), (0, ANY, ANY, -1), (True, ANY, ANY, 0), (0, ANY, ANY, False),
                      (None, ANY, ANY, 0), (0, ANY, ANY, None), (0, None, ANY, 0), (0, ANY, None, 0), (0, "any", ANY, 0),
                      (0, ANY, "any", 0), (0, ["any"], ANY, 0), (0, ANY, ["any"], 0), (0, TICK, ANY, 0),
                      (0, TICK, TICK, 0), (0, ANY, ("tick", 1), 0), (0, ("any", 1), ANY, 0), (0, ("new", 1), ANY, 0),
                      (0, ("left",), ANY, 0), (0, ANY, ("right",), 0), (0, ("left", 1, 1), ANY, 0),
                      (0, ("both", 1), ANY, 0), (0, ("",), ANY, 0), (0, (), ANY, 0), (0, ANY, (), 0),
                      (0, ("Any",), ANY, 0), (0, ("left", True), ANY, 0), (0, ANY, ("right", None), 0)]:
            self.bad(arrow)

    def test_bounds_of_the_span(self):
        for span in range(1, 5):
            for side in ("left", "right"):
                for i in range(-1, 7):
                    for arrow in ((0, (side, i), ANY, 0), (0, ANY, (side, i), 0)):
                        if 1 <= i <= span:
                            self.assertEqual(Sender(1, span, (arrow,), ()).arrows(), (arrow,))
                        else:
                            self.bad(arrow, 1, span)

    def test_any_value_in_an_arrow(self):
        for thing in odd_values():
            self.bad(thing)
            if not (thing in (0, 1) and not isinstance(thing, bool)):
                self.bad((thing, ANY, ANY, 0))
                self.bad((0, ANY, ANY, thing))
            self.bad((0, thing, ANY, 0))
            self.bad((0, ANY, thing, 0))
            if thing != 1 or isinstance(thing, bool):
                self.bad((0, ("left", thing), ANY, 0))
            self.bad((0, (thing, 1), ANY, 0)) if thing not in ("left", "right") else None
            self.bad((0, ANY, (thing,), 0))

    def test_the_first_bad_arrow(self):
        self.refused(BadArrow, 2, 1, 1, (LOOP, LOOP, None, None), ())


class Sending(unittest.TestCase):
    """[66], [67]: sends"""

    def test_the_free_sender(self):
        sender = free_sender()
        self.assertEqual((sender.places(), sender.span(), sender.arrows(), sender.ends()), (1, 1, (LOOP,), (0,)))
        chance = rng(660)
        for many in (0, 1, 2, 10, 60):
            self.assertIs(sender.sends(*equal_texts(chance, many, 4)), True)

    def test_texts_of_unequal_length(self):
        for left, right in (((1,), ()), ((), (1,)), ((1, 2), (1,)), ((1,) * 3, (1,) * 4)):
            self.assertIs(free_sender().sends(left, right), False)

    def test_ends(self):
        sender = Sender(2, 1, ((0, ANY, ANY, 1), (1, ANY, ANY, 0)), (1,))
        for many in range(6):
            self.assertIs(sender.sends((1,) * many, (2,) * many), many % 2 == 1)
        self.assertIs(Sender(1, 1, (LOOP,), ()).sends((), ()), False)
        self.assertIs(Sender(2, 1, (LOOP,), (1,)).sends((), ()), False)
        self.assertIs(Sender(2, 1, (LOOP,), (0,)).sends((), ()), True)

    def test_a_place_that_cannot_be_reached(self):
        sender = Sender(3, 1, (LOOP, (2, ANY, ANY, 2)), (2,))
        for many in range(4):
            self.assertIs(sender.sends((1,) * many, (1,) * many), False)

    def told(self, left_kind, right_kind, left, right, span=2, before=2):
        """Whether a tick like this can come behind so many free ones."""
        free = tuple((place, ANY, ANY, place + 1) for place in range(before))
        sender = Sender(before + 2, span, free + ((before, left_kind, right_kind, before + 1),), (before + 1,))
        return sender.sends(left, right)

    def test_earlier_letters(self):
        left, right = (1, 2), (3, 4)
        for kind, letter in ((("left", 1), 2), (("left", 2), 1), (("right", 1), 4), (("right", 2), 3)):
            for other in range(1, 6):
                self.assertIs(self.told(kind, ANY, left + (other,), right + (9,)), other == letter)
                self.assertIs(self.told(ANY, kind, left + (9,), right + (other,)), other == letter)

    def test_letters_that_are_not_there(self):
        for kind in (("left", 2), ("right", 2)):
            for before, there in ((0, False), (1, False), (2, True)):
                left = (5,) * (before + 1)
                self.assertIs(self.told(kind, ANY, left, left, 2, before), there)
                self.assertIs(self.told(ANY, kind, left, left, 2, before), there)

    def test_new_letters(self):
        left, right = (1, 2, 3), (4, 5, 6)
        for span in range(1, 5):
            last = left[-span:] + right[-span:]
            for letter in range(1, 8):
                self.assertIs(self.told(NEW, ANY, left + (letter,), right + (9,), span, 3), letter not in last)
                self.assertIs(self.told(ANY, NEW, left + (9,), right + (letter,), span, 3), letter not in last)
        # As right it is unlike the left letter of the tick, too; as left it has nothing to do with the right one.
        self.assertIs(self.told(ANY, NEW, (8,), (8,), 1, 0), False)
        self.assertIs(self.told(NEW, NEW, (8,), (8,), 1, 0), False)
        self.assertIs(self.told(NEW, ANY, (8,), (8,), 1, 0), True)
        self.assertIs(self.told(NEW, NEW, (8,), (7,), 1, 0), True)
        self.assertIs(self.told(NEW, TICK, (8,), (8,), 1, 0), True)

    def test_the_left_letter_of_the_tick(self):
        self.assertIs(self.told(ANY, TICK, (1, 2, 5), (3, 4, 5)), True)
        self.assertIs(self.told(ANY, TICK, (1, 2, 5), (3, 4, 6)), False)
        self.assertIs(self.told(("right", 1), TICK, (1, 2, 4), (3, 4, 4)), True)
        self.assertIs(self.told(("right", 1), TICK, (1, 2, 3), (3, 4, 3)), False)

    def test_several_runs(self):
        """One run that gets stuck does not matter if another one goes on."""
        sender = Sender(3, 1, ((0, ANY, ANY, 1), (0, ANY, ANY, 2), (1, ANY, TICK, 1), (2, ANY, NEW, 2)), (2,))
        self.assertIs(sender.sends((1, 2), (1, 3)), True)
        self.assertIs(sender.sends((1, 2), (1, 2)), False)
        self.assertIs(sender.sends((1,), (1,)), True)

    def test_against_all_runs(self):
        chance = rng(661)
        seen = {True: 0, False: 0}
        for _ in range(500):
            sender = random_sender(chance)
            left, right, _ = sent(chance, sender, chance.randint(0, 6))
            if chance.random() < 0.3:
                left, right = equal_texts(chance, chance.randint(0, 4), 3)
            wanted = bool(slow_places(sender, left, right) & set(sender.ends()))
            self.assertIs(sender.sends(left, right), wanted)
            seen[wanted] += 1
        self.assertGreater(min(seen.values()), 100)


class Moves(unittest.TestCase):
    """[67]: moves"""

    def test_free(self):
        for left, right in (((), ()), ((1,), (1,)), ((1, 2), (2, 3))):
            pattern = pattern_of(left, right)
            self.assertEqual(free_sender().moves(0, pattern), [(x, y, 0) for x, y in ticks(pattern)])

    def test_some(self):
        sender = Sender(2, 1, ((0, NEW, TICK, 1), (0, ("left", 1), NEW, 0), (1, ("right", 1), ("left", 1), 1)), ())
        self.assertEqual(sender.moves(0, ((), ())), [(0, 0, 1)])
        self.assertEqual(sender.moves(1, ((), ())), [])
        self.assertEqual(sender.moves(0, ((0,), (1,))), [(0, 2, 0), (2, 2, 1)])
        self.assertEqual(sender.moves(1, ((0,), (1,))), [(1, 0, 1)])
        # Behind two ticks the letters of the first one do not matter to a span of 1.
        self.assertEqual(sender.moves(0, ((0, 1), (2, 1))), [(0, 0, 1), (1, 0, 0), (1, 2, 0), (1, 3, 0), (2, 2, 1),
                                                             (3, 3, 1)])

    def test_different_moves_in_order(self):
        sender = Sender(2, 1, ((0, ANY, TICK, 1), (0, NEW, ANY, 0), (0, ANY, ANY, 0), (0, NEW, TICK, 1)), ())
        found = sender.moves(0, ((), ()))
        self.assertEqual(found, [(0, 0, 0), (0, 0, 1), (0, 1, 0)])
        self.assertIsInstance(found, list)

    def test_against_letters(self):
        """For real letters behind some run, a move is there exactly if an arrow can bring letters like it."""
        chance = rng(662)
        for _ in range(250):
            sender = random_sender(chance)
            left, right, place = sent(chance, sender, chance.randint(0, 6))
            many = chance.randint(sender.span(), 6)
            last = left[-many:], right[-many:]
            new = [letter for letter in range(20) if letter not in last[0] + last[1]]
            letters = sorted(set(last[0] + last[1])) + new[:2]
            found = set()
            for x, y in itertools.product(letters, repeat=2):
                # A new letter may stand further ahead in the texts; that does not matter.
                numbers = pattern_of(last[0] + last[1] + (x, y), ())[0][-2:]
                for frm, a, b, to in sender.arrows():
                    if (frm == place and slow_brings(a, sender.span(), *last, x)
                            and slow_brings(b, sender.span(), *last, y, x)):
                        found.add(numbers + (to,))
            self.assertEqual(sender.moves(place, pattern_of(*last)), sorted(found))


if __name__ == "__main__":
    unittest.main()
