import unittest

from helpers import rng
from saidearly.errors import AlreadyEnded, BeyondEnd, Contradiction, EarlyError, EndsShort
from saidearly.lanes import Lane
from saidearly.prices import Prices


def state(lane):
    return lane.known(), lane.told_length(), lane.head(), lane.gaps(), lane.is_whole()


class SlowLane:
    """The same by looking at each place, for lanes of a few places."""

    def __init__(self):
        self.letters = [None] * 30
        self.length = None

    def receive(self, place, text):
        spots = [(place + k, letter) for k, letter in enumerate(text)]
        against = [spot for spot, letter in spots if self.letters[spot] not in (None, letter)]
        beyond = [spot for spot, _ in spots if self.length is not None and spot >= self.length]
        if against:
            return "Contradiction", against[0]
        if beyond:
            return "BeyondEnd", beyond[0]
        for spot, letter in spots:
            self.letters[spot] = letter
        return None

    def close(self, length):
        if self.length is not None and length != self.length:
            return "AlreadyEnded", self.length
        behind = [spot for spot in range(30) if spot >= length and self.letters[spot] is not None]
        if behind:
            return "EndsShort", behind[0]
        self.length = length
        return None

    def state(self):
        known = {spot: letter for spot, letter in enumerate(self.letters) if letter is not None}
        first = self.letters.index(None)
        end = max([spot + 1 for spot in known] + [self.length or 0])
        gaps = []
        for spot in range(end):
            if self.letters[spot] is None:
                if gaps and gaps[-1][1] == spot:
                    gaps[-1] = (gaps[-1][0], spot + 1)
                else:
                    gaps.append((spot, spot + 1))
        head = tuple(self.letters[:first])
        return known, self.length, head, tuple(gaps), self.length == first


class Lanes(unittest.TestCase):
    """[13] to [16]"""

    def refused(self, lane, kind, field, value, call):
        before = state(lane)
        with self.assertRaises(EarlyError) as caught:
            call()
        self.assertIs(caught.exception.__class__, kind)
        self.assertEqual(getattr(caught.exception, field), value)
        self.assertEqual(state(lane), before)

    def test_a_new_lane(self):
        self.assertEqual(state(Lane()), ({}, None, (), (), False))
        self.assertIs(Lane().is_whole(), False)

    def test_pieces_in_any_order(self):
        lane = Lane()
        self.assertIsNone(lane.receive(3, (7, 8)))
        self.assertEqual(state(lane), ({3: 7, 4: 8}, None, (), ((0, 3),), False))
        lane.receive(1, (5,))
        self.assertEqual(lane.gaps(), ((0, 1), (2, 3)))
        lane.receive(0, (4,))
        self.assertEqual(lane.head(), (4, 5))
        lane.receive(2, (6,))
        self.assertEqual(state(lane), ({0: 4, 1: 5, 2: 6, 3: 7, 4: 8}, None, (4, 5, 6, 7, 8), (), False))

    def test_pieces_twice_and_over_one_another(self):
        lane = Lane()
        lane.receive(0, (1, 2, 3))
        lane.receive(0, (1, 2, 3))
        lane.receive(1, (2, 3, 4))
        lane.receive(2, (3,))
        self.assertEqual(lane.head(), (1, 2, 3, 4))

    def test_far_ahead(self):
        lane = Lane()
        far = 10 ** 30
        lane.receive(far, (1, 2))
        self.assertEqual(state(lane), ({far: 1, far + 1: 2}, None, (), ((0, far),), False))
        lane.close(far + 5)
        self.assertEqual(lane.gaps(), ((0, far), (far + 2, far + 5)))
        self.assertIs(lane.is_whole(), False)

    def test_known_ascends(self):
        lane = Lane()
        for place in (5, 1, 9, 0):
            lane.receive(place, (place,))
        self.assertEqual(list(lane.known()), [0, 1, 5, 9])

    def test_the_letter_zero_is_a_letter(self):
        lane = Lane()
        lane.receive(0, (0, 0))
        self.refused(lane, Contradiction, "place", 1, lambda: lane.receive(0, (0, 1)))
        self.assertEqual(lane.head(), (0, 0))

    def test_contradiction_names_the_least_place(self):
        lane = Lane()
        lane.receive(2, (1, 1, 1))
        self.refused(lane, Contradiction, "place", 3, lambda: lane.receive(0, (0, 0, 1, 9, 9)))
        self.refused(lane, Contradiction, "place", 4, lambda: lane.receive(4, (0, 9, 9)))
        self.assertEqual(lane.known(), {2: 1, 3: 1, 4: 1})

    def test_beyond_end_names_the_least_place(self):
        lane = Lane()
        lane.close(4)
        self.refused(lane, BeyondEnd, "place", 4, lambda: lane.receive(2, (1, 1, 1, 1)))
        self.refused(lane, BeyondEnd, "place", 4, lambda: lane.receive(4, (1,)))
        self.refused(lane, BeyondEnd, "place", 9, lambda: lane.receive(9, (1, 2)))
        self.assertIsNone(lane.receive(3, (1,)))
        self.assertIsNone(lane.receive(0, (1, 1, 1, 1)))
        self.assertIs(lane.is_whole(), True)

    def test_contradiction_comes_before_beyond_end(self):
        lane = Lane()
        lane.receive(0, (1, 2))
        lane.close(2)
        self.refused(lane, Contradiction, "place", 1, lambda: lane.receive(0, (1, 3, 4)))
        self.refused(lane, BeyondEnd, "place", 2, lambda: lane.receive(0, (1, 2, 4)))

    def test_the_empty_text(self):
        lane = Lane()
        self.assertIsNone(lane.receive(7, ()))
        self.assertEqual(state(lane), state(Lane()))
        lane.receive(0, (1,))
        lane.close(2)
        before = state(lane)
        for place in (0, 1, 2, 3, 10 ** 20):
            self.assertIsNone(lane.receive(place, ()))
        self.assertEqual(state(lane), before)

    def test_close(self):
        lane = Lane()
        self.assertIsNone(lane.close(2))
        self.assertEqual(state(lane), ({}, 2, (), ((0, 2),), False))
        self.assertIsNone(lane.close(2))
        self.assertEqual(state(lane), ({}, 2, (), ((0, 2),), False))
        lane.receive(0, (5, 6))
        self.assertEqual(state(lane), ({0: 5, 1: 6}, 2, (5, 6), (), True))
        self.assertIsNone(lane.close(2))

    def test_close_at_nothing(self):
        lane = Lane()
        lane.close(0)
        self.assertEqual(state(lane), ({}, 0, (), (), True))
        self.refused(lane, AlreadyEnded, "length", 0, lambda: lane.close(1))
        self.refused(lane, BeyondEnd, "place", 0, lambda: lane.receive(0, (1,)))

    def test_already_ended_tells_the_length_told_before(self):
        lane = Lane()
        lane.close(5)
        self.refused(lane, AlreadyEnded, "length", 5, lambda: lane.close(4))
        self.refused(lane, AlreadyEnded, "length", 5, lambda: lane.close(6))

    def test_ends_short_names_the_least_place(self):
        lane = Lane()
        lane.receive(7, (1,))
        lane.receive(3, (1, 1))
        self.refused(lane, EndsShort, "place", 3, lambda: lane.close(2))
        self.refused(lane, EndsShort, "place", 3, lambda: lane.close(3))
        self.refused(lane, EndsShort, "place", 4, lambda: lane.close(4))
        self.refused(lane, EndsShort, "place", 7, lambda: lane.close(5))
        self.refused(lane, EndsShort, "place", 7, lambda: lane.close(7))
        self.assertIsNone(lane.close(8))

    def test_already_ended_comes_before_ends_short(self):
        lane = Lane()
        lane.receive(0, (1, 1, 1))
        lane.close(3)
        self.refused(lane, AlreadyEnded, "length", 3, lambda: lane.close(1))

    def test_a_great_length(self):
        lane = Lane()
        lane.close(10 ** 30)
        self.assertEqual(lane.gaps(), ((0, 10 ** 30),))
        self.assertIs(lane.is_whole(), False)

    def test_a_lane_behind_an_error_goes_on_as_ahead_of_it(self):
        lane = Lane()
        lane.receive(1, (1,))
        self.refused(lane, Contradiction, "place", 1, lambda: lane.receive(0, (7, 8)))
        lane.receive(0, (6,))
        self.assertEqual(lane.head(), (6, 1))
        self.refused(lane, EndsShort, "place", 1, lambda: lane.close(1))
        self.assertIsNone(lane.told_length())
        lane.close(2)
        self.assertIs(lane.is_whole(), True)

    def test_what_is_returned_may_be_changed(self):
        lane = Lane()
        lane.receive(0, (1, 2))
        lane.known()[0] = 9
        lane.known().clear()
        self.assertEqual(lane.known(), {0: 1, 1: 2})
        self.assertIsInstance(lane.head(), tuple)
        self.assertIsInstance(lane.gaps(), tuple)

    def test_twins_go_their_own_ways(self):
        lane = Lane()
        lane.receive(0, (1, 2))
        twin = lane.twin()
        self.assertIsInstance(twin, Lane)
        self.assertEqual(state(twin), state(lane))
        twin.receive(2, (3,))
        lane.receive(2, (4,))
        lane.close(3)
        self.assertEqual((twin.head(), twin.told_length()), ((1, 2, 3), None))
        self.assertEqual((lane.head(), lane.told_length()), ((1, 2, 4), 3))
        self.assertEqual(state(lane.twin()), state(lane))

    def test_equal(self):
        one = Lane()
        other = Lane()
        self.assertIs(one == other, True)
        one.receive(0, (1,))
        one.receive(4, (2,))
        self.assertIs(one == other, False)
        other.receive(4, (2,))
        other.receive(0, (1,))
        self.assertIs(one == other, True)
        self.assertIs(one == one.twin(), True)
        one.close(5)
        self.assertIs(one == other, False)
        self.assertIs(one != other, True)
        other.close(6)
        self.assertIs(one == other, False)

    def test_equal_to_nothing_else(self):
        for thing in [None, (), {}, 0, "", False, Prices({}), object()]:
            self.assertIs(Lane() == thing, False)
            self.assertIs(thing == Lane(), False)

    def test_many_pieces_against_a_slow_lane(self):
        chance = rng(13)
        for _ in range(400):
            lane = Lane()
            slow = SlowLane()
            for _ in range(12):
                if chance.random() < 0.15:
                    what = ("close", chance.randint(0, 9))
                else:
                    place = chance.randint(0, 8)
                    bad = chance.random() < 0.15
                    text = tuple((place + k) % 3 + 4 * (bad and chance.random() < 0.3)
                                 for k in range(chance.randint(0, 4)))
                    what = ("receive", place, text)
                try:
                    told = getattr(lane, what[0])(*what[1:])
                except EarlyError as error:
                    told = (error.__class__.__name__, list(vars(error).values())[0])
                self.assertEqual(told, getattr(slow, what[0])(*what[1:]))
                self.assertEqual(state(lane), slow.state())


if __name__ == "__main__":
    unittest.main()
