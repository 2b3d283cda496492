import unittest

from helpers import NONE, PLAIN, UNEVEN, odd_values, random_prices, random_text, rng, slow_least, texts_up_to
from saidearly.errors import NoElder, Wrong
from saidearly.lanes import Lane
from saidearly.nearest import Nearest
from saidearly.prices import Prices


def made(prices, elders, right=()):
    nearest = Nearest(prices, elders)
    nearest.grow(right)
    return nearest


def slow_search(prices, elders, right):
    """The continuations of [35] in their order, with the least from each elder."""
    return [(elder[i:], [slow_least(other, right + elder[i:], prices, NONE) for other in elders])
            for elder in elders for i in range(len(elder) + 1)]


class Making(unittest.TestCase):
    """[35], [R]"""

    def test_wrong_arguments(self):
        elders = ((1,),)
        for thing in odd_values():
            if not isinstance(thing, Prices):
                for second in (elders, None, thing):
                    with self.assertRaises(Wrong) as caught:
                        Nearest(thing, second)
                    self.assertEqual(caught.exception.place, 0)
            if thing not in (((),), ((), ())):
                with self.assertRaises(Wrong) as caught:
                    Nearest(PLAIN, thing)
                self.assertEqual(caught.exception.place, 1)
        for thing in [(), ((),) * 7, [(1,)], ([1],), ((1,), None), ((-1,),), ((True,),), ((10 ** 9 + 1,),), (1, 2)]:
            with self.assertRaises(Wrong) as caught:
                Nearest(PLAIN, thing)
            self.assertEqual(caught.exception.place, 1)

    def test_one_to_six_elders(self):
        for many in range(1, 7):
            nearest = Nearest(PLAIN, ((1,),) * many)
            self.assertEqual(nearest.can_be_nearest(), tuple(range(many)))
            self.assertEqual(nearest.loss_of(many - 1), (0, (1,)))

    def test_grow(self):
        nearest = Nearest(PLAIN, ((1,),))
        self.assertEqual(nearest.right(), ())
        self.assertIsNone(nearest.grow((1, 2)))
        nearest.grow(())
        nearest.grow((3,))
        self.assertEqual(nearest.right(), (1, 2, 3))


class Losses(unittest.TestCase):
    """[35]"""

    def test_one_elder(self):
        nearest = made(UNEVEN, ((0, 1),), (2, 2))
        self.assertEqual(nearest.can_be_nearest(), (0,))
        self.assertEqual(nearest.loss_of(0), (0, (0, 1)))

    def test_empty_elders(self):
        nearest = Nearest(PLAIN, ((),))
        self.assertEqual((nearest.can_be_nearest(), nearest.loss_of(0)), ((0,), (0, ())))
        nearest = made(PLAIN, ((), (1, 2)), (1, 2))
        self.assertEqual(nearest.can_be_nearest(), (1,))
        self.assertEqual(nearest.loss_of(0), (2, ()))
        self.assertEqual(nearest.loss_of(1), (0, ()))

    def test_duplicates_are_nearest_together(self):
        nearest = made(PLAIN, ((1, 1), (2,), (1, 1)), (1, 1))
        self.assertEqual(nearest.can_be_nearest(), (0, 2))
        self.assertEqual(nearest.loss_of(0), (0, (1, 1)))
        self.assertEqual(nearest.loss_of(2), (0, (1, 1)))
        self.assertEqual(nearest.loss_of(1), (3, (1, 1)))

    def test_equals_are_nearest(self):
        # Behind the right text (3,) each of both elders may come to be at most as far as the other one.
        nearest = made(PLAIN, ((1,), (2,)), (3,))
        self.assertEqual(nearest.can_be_nearest(), (0, 1))
        self.assertEqual(nearest.loss_of(0), (2, (2,)))
        self.assertEqual(nearest.loss_of(1), (2, (1,)))

    def test_an_elder_falls_behind_as_the_right_text_grows(self):
        nearest = Nearest(PLAIN, ((1, 1, 1, 1), (2, 2)))
        self.assertEqual(nearest.can_be_nearest(), (0, 1))
        # With (2, 2) behind, both cost 3.
        nearest.grow((1, 1, 1))
        self.assertEqual(nearest.can_be_nearest(), (0, 1))
        nearest.grow((1,))
        self.assertEqual(nearest.can_be_nearest(), (0,))

    def test_the_first_of_several_is_told(self):
        nearest = Nearest(PLAIN, ((9,), (1, 2), (2, 1)))
        self.assertEqual(nearest.loss_of(0), (3, (1, 2)))
        nearest = Nearest(PLAIN, ((9,), (2, 1), (1, 2)))
        self.assertEqual(nearest.loss_of(0), (3, (2, 1)))
        nearest = made(PLAIN, ((1,), ()), (1,))
        self.assertEqual(nearest.loss_of(1), (1, (1,)))
        nearest = made(PLAIN, ((), (1,)), (1,))
        self.assertEqual(nearest.loss_of(0), (1, ()))

    def test_no_elder(self):
        nearest = Nearest(PLAIN, ((1,), (2,)))
        for thing in [-1, 2, 10 ** 39, True, False, None, "0", (0,), [0], {}, Lane()] + odd_values():
            if thing in (0, 1) and not isinstance(thing, bool):
                continue
            with self.assertRaises(NoElder) as caught:
                nearest.loss_of(thing)
            self.assertIs(caught.exception.index, thing)
        self.assertEqual(nearest.right(), ())

    def test_against_the_words(self):
        chance = rng(35)
        for _ in range(60):
            prices = random_prices(chance)
            elders = tuple(random_text(chance, 4) for _ in range(chance.randint(1, 6)))
            right = random_text(chance, 4)
            nearest = made(prices, elders, right)
            searched = slow_search(prices, elders, right)
            for index in range(len(elders)):
                best = max(worths[index] - min(worths) for _, worths in searched)
                first = [text for text, worths in searched if worths[index] - min(worths) == best][0]
                self.assertEqual(nearest.loss_of(index), (best, first))

    def test_against_all_short_continuations(self):
        chance = rng(36)
        texts = texts_up_to(4, 3)
        for _ in range(10):
            prices = random_prices(chance)
            elders = tuple(random_text(chance, 3) for _ in range(3))
            right = random_text(chance, 3)
            nearest = made(prices, elders, right)
            losses = [nearest.loss_of(index)[0] for index in range(3)]
            rows = [[slow_least(elder, right + text, prices, NONE) for elder in elders] for text in texts]
            # The rests of the elders are among these texts, and no other one shows more.
            for index in range(3):
                self.assertEqual(max(row[index] - min(row) for row in rows), losses[index])
            self.assertEqual(nearest.can_be_nearest(),
                             tuple(k for k in range(3) if any(row[k] == min(row) for row in rows)))

    def test_pieces_do_not_matter(self):
        one = made(UNEVEN, ((0, 1), (2,)), (0, 1, 2))
        other = Nearest(UNEVEN, ((0, 1), (2,)))
        other.loss_of(1)
        for letter in (0, 1, 2):
            other.grow((letter,))
            other.can_be_nearest()
        self.assertEqual([other.can_be_nearest(), other.loss_of(0), other.loss_of(1)],
                         [one.can_be_nearest(), one.loss_of(0), one.loss_of(1)])

    def test_long_ones(self):
        chance = rng(37)
        elders = tuple(tuple(chance.randrange(3) for _ in range(60)) for _ in range(6))
        nearest = made(UNEVEN, elders, tuple(chance.randrange(3) for _ in range(60)))
        number, text = nearest.loss_of(3)
        worths = [slow_least(elder, nearest.right() + text, UNEVEN, NONE) for elder in elders]
        self.assertEqual(worths[3] - min(worths), number)
        self.assertTrue(nearest.can_be_nearest())


if __name__ == "__main__":
    unittest.main()
