import unittest

from helpers import odd_values
from saidearly.errors import Wrong
from saidearly.lanes import Lane
from saidearly.prices import Prices

BIG = 10 ** 9


class PricesOfLetters(unittest.TestCase):
    """[12]"""

    def test_drop_and_put(self):
        prices = Prices({5: (2, 9), 0: (1, 3), BIG: (9, 1)})
        self.assertEqual([prices.drop(5), prices.put(5)], [2, 9])
        self.assertEqual([prices.drop(0), prices.put(0)], [1, 3])
        self.assertEqual([prices.drop(BIG), prices.put(BIG)], [9, 1])

    def test_other_letters_are_plain(self):
        prices = Prices({5: (2, 9)})
        self.assertEqual([prices.drop(4), prices.put(4), prices.drop(BIG), prices.put(0)], [1, 1, 1, 1])

    def test_sums(self):
        prices = Prices({5: (2, 9), 6: (4, 3)})
        self.assertEqual(prices.drops((5, 6, 7, 5)), 9)
        self.assertEqual(prices.puts((5, 6, 7, 5)), 22)
        self.assertEqual([prices.drops(()), prices.puts(())], [0, 0])

    def test_table_leaves_plain_prices_out_and_ascends(self):
        prices = Prices({9: (1, 2), 3: (1, 1), 5: (2, 1), 0: (9, 9)})
        self.assertEqual(list(prices.table().items()), [(0, (9, 9)), (5, (2, 1)), (9, (1, 2))])
        self.assertEqual(Prices({}).table(), {})

    def test_turned(self):
        prices = Prices({9: (1, 2), 5: (4, 4), 0: (3, 1)})
        back = prices.turned()
        self.assertEqual(list(back.table().items()), [(0, (1, 3)), (5, (4, 4)), (9, (2, 1))])
        self.assertIsInstance(back, Prices)
        self.assertEqual(back.turned(), prices)
        self.assertEqual(prices.table(), {0: (3, 1), 5: (4, 4), 9: (1, 2)})

    def test_equal(self):
        self.assertIs(Prices({1: (2, 3), 4: (1, 1)}) == Prices({1: (2, 3), 8: (1, 1)}), True)
        self.assertIs(Prices({1: (2, 3), 2: (3, 2)}) == Prices({2: (3, 2), 1: (2, 3)}), True)
        self.assertIs(Prices({1: (2, 3)}) == Prices({1: (3, 2)}), False)
        self.assertIs(Prices({1: (2, 3)}) == Prices({2: (2, 3)}), False)
        self.assertIs(Prices({1: (2, 3)}) != Prices({1: (2, 3)}), False)
        for thing in [{}, {1: (2, 3)}, None, 0, (), "", Lane(), True]:
            self.assertIs(Prices({}) == thing, False)
            self.assertIs(Prices({1: (2, 3)}) == thing, False)
            self.assertIs(thing == Prices({1: (2, 3)}), False)

    def test_it_copies_its_table(self):
        table = {1: (2, 3)}
        prices = Prices(table)
        table[1] = (9, 9)
        table[2] = (9, 9)
        self.assertEqual(prices.table(), {1: (2, 3)})

    def test_what_it_returns_is_new(self):
        prices = Prices({1: (2, 3)})
        prices.table()[1] = (9, 9)
        prices.table().clear()
        self.assertEqual(prices.table(), {1: (2, 3)})
        self.assertEqual(prices.drop(1), 2)
        self.assertIsNot(prices.turned(), prices)

    def test_the_table_is_not_changed(self):
        table = {7: (1, 1), 1: (2, 3)}
        Prices(table)
        self.assertEqual(list(table.items()), [(7, (1, 1)), (1, (2, 3))])

    def test_wrong_tables(self):
        wrong = [{-1: (1, 1)}, {BIG + 1: (1, 1)}, {True: (1, 1)}, {False: (2, 2)}, {"0": (1, 1)}, {None: (1, 1)},
                 {(0,): (1, 1)}, {0: (0, 1)}, {0: (1, 0)}, {0: (10, 1)}, {0: (1, 10)}, {0: (1,)}, {0: (1, 1, 1)},
                 {0: [1, 1]}, {0: (True, 1)}, {0: (1, True)}, {0: None}, {0: 1}, {0: ()}, {0: (None, 1)},
                 {0: (1, 1), 1: (1, 0)}, {0: ("1", 1)}, [], [(0, (1, 1))], (), None, "", 0, Prices({}), Lane()]
        wrong += [thing for thing in odd_values() if thing not in ({}, {0: (1, 1)})]
        for table in wrong:
            with self.assertRaises(Wrong) as caught:
                Prices(table)
            self.assertEqual(caught.exception.place, 0)
            self.assertIsNot(caught.exception.place, False)

    def test_all_prices_from_one_to_nine(self):
        for drop in range(1, 10):
            for put in range(1, 10):
                prices = Prices({0: (drop, put)})
                self.assertEqual((prices.drop(0), prices.put(0)), (drop, put))


if __name__ == "__main__":
    unittest.main()
