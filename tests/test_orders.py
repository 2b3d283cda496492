import itertools
import unittest

from helpers import NONE, PLAIN, UNEVEN, random_prices, random_text, rng, texts_up_to
from saidearly.errors import NotComparable
from saidearly.orders import greatest_difference
from saidearly.prices import Prices
from saidearly.standings import echo, price_behind
from test_standings import made

SIDES = ("left", "right")


class Orders(unittest.TestCase):
    """[34]"""

    def test_the_same(self):
        one = made((1, 2), (3,))
        self.assertEqual(greatest_difference(one, one.twin()), (0, ((), (1, 2))))
        self.assertEqual(greatest_difference(one, one), (0, ((), (1, 2))))

    def test_some(self):
        one = made((1,), ())
        other = made((2,), ())
        self.assertEqual(greatest_difference(one, other), (2, ((), (1,))))
        self.assertEqual(greatest_difference(made((0,), (), UNEVEN), made((1,), (), UNEVEN)), (12, ((), (0,))))

    def test_a_negative_number(self):
        one = made((1, 2), (3, 4), closed=SIDES)
        other = made((1,), (1,), closed=SIDES)
        self.assertEqual(greatest_difference(one, other), (-4, ((), ())))
        self.assertEqual(greatest_difference(other, one), (4, ((), ())))
        one = made((1,), (2,), closed=("left",))
        other = made((1,), (1,), closed=("left",))
        self.assertEqual(greatest_difference(other, one), (2, ((), ())))

    def test_the_first_point_of_several(self):
        one = made((), (), PLAIN)
        other = made((1,), (2,), PLAIN)
        self.assertEqual(greatest_difference(one, other), (2, ((), ())))
        # Behind each echo of one the other one costs as much more.
        one = made((1, 2), (3, 4))
        other = made((9, 1, 2), (8, 3, 4))
        number, going_on = greatest_difference(one, other)
        worths = [(price_behind(other, echo(one, point)) - worth, echo(one, point)) for point, worth in one.rim()]
        self.assertEqual((number, going_on), [pair for pair in worths if pair[0] == number][0])
        self.assertEqual(number, max(more for more, _ in worths))
        self.assertGreater(len([pair for pair in worths if pair[0] == number]), 1)

    def test_against_many_going_ons(self):
        chance = rng(34)
        texts = texts_up_to(3, 3)
        for _ in range(12):
            prices = random_prices(chance)
            closed = chance.choice([(), ("left",), ("right",)])
            one, other = [made(random_text(chance, 3), random_text(chance, 3), prices, NONE, closed)
                          for _ in range(2)]
            number, going_on = greatest_difference(one, other)
            self.assertEqual(price_behind(other, going_on) - price_behind(one, going_on), number)
            rim = [(price_behind(other, echo(one, point)) - worth, echo(one, point)) for point, worth in one.rim()]
            self.assertEqual([pair for pair in rim if pair[0] == number][0], (number, going_on))
            lefts = texts if one.is_open("left") else [()]
            rights = texts if one.is_open("right") else [()]
            pairs = list(itertools.product(lefts, rights))
            for pair in pairs if len(pairs) < 100 else chance.sample(pairs, 200):
                self.assertLessEqual(price_behind(other, pair) - price_behind(one, pair), number)

    def test_long_heads(self):
        chance = rng(35)
        heads = [tuple(chance.randrange(3) for _ in range(24)) for _ in range(4)]
        one, other = made(heads[0], heads[1], UNEVEN), made(heads[2], heads[3], UNEVEN)
        number, going_on = greatest_difference(one, other)
        self.assertEqual(price_behind(other, going_on) - price_behind(one, going_on), number)

    def test_not_comparable(self):
        base = made((1,), (2,))
        others = [made((1,), (2,), Prices({9: (1, 2)})), made((1,), (2,), PLAIN, ("lag", 1)),
                  made((1,), (2,), PLAIN, ("total", 60)), made((1,), (2,), closed=("left",)),
                  made((1,), (2,), closed=("right",))]
        for other in others:
            with self.assertRaises(NotComparable):
                greatest_difference(base, other)
            with self.assertRaises(NotComparable):
                greatest_difference(other, base)
        for promise in [("lag", 1), ("total", 9)]:
            one = made((1,), (2,), PLAIN, promise)
            with self.assertRaises(NotComparable):
                greatest_difference(one, one.twin())
        with self.assertRaises(NotComparable):
            greatest_difference(made((), (), closed=("left",)), made((), (), closed=("right",)))


if __name__ == "__main__":
    unittest.main()
