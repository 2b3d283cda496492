import unittest

from helpers import odd_values
from saidearly import letters
from saidearly.letters import (is_going_on, is_integer, is_letter, is_pair, is_promise, is_script, is_side, is_text)

ALL = (is_integer, is_letter, is_text, is_side, is_script, is_promise, is_pair, is_going_on)
BIG = 10 ** 9


class Letters(unittest.TestCase):
    """[11], with the words of [2] and the values of [4]."""

    def check(self, tell, right, wrong):
        for thing in right:
            self.assertIs(tell(thing), True, repr(thing)[:60])
        for thing in wrong:
            self.assertIs(tell(thing), False, repr(thing)[:60])

    def test_integers(self):
        self.check(is_integer, [0, 1, -1, BIG + 1, 10 ** 39, -10 ** 39],
                   [True, False, None, "1", (1,), [1], {1: 1}, ""])

    def test_letters(self):
        self.check(is_letter, [0, 1, 7, BIG - 1, BIG], [-1, BIG + 1, -BIG, 10 ** 39, True, False, None, "0", (0,)])

    def test_texts(self):
        self.check(is_text, [(), (0,), (BIG,), (3, 3, 0), tuple(range(2999))],
                   [[], [0], None, "", "01", 0, (-1,), (BIG + 1,), (0, True), (False,), (0, None), ((0,),), {}, {0: 1},
                    (0,) * 100 + (-1,)])

    def test_sides(self):
        self.check(is_side, ["left", "right"],
                   ["", "Left", "left ", "lef", "eft", "both", "left\n", ("left",), ["left"], None, 0, True])

    def test_scripts(self):
        self.check(is_script, ["", "k", "d", "p", "kdpkdp", "kdp" * 100000],
                   ["x", "K", "kd p", "k\n", "kdx", "xkd", "kd" * 5000 + "x", None, 0, ("k",), ["k", "d"], (), [], {}])

    def test_promises(self):
        right = [("none",)] + [("lag", g) for g in range(1, 5)] + [("total", d) for d in range(61)]
        wrong = [("lag", 0), ("lag", 5), ("lag", -1), ("lag", True), ("lag", "1"), ("lag", None), ("lag",),
                 ("lag", 1, 1), ("total", -1), ("total", 61), ("total", False), ("total", None), ("total",),
                 ("total", 1, 1), ("none", 0), ("none", None), ("none", ()), ["none"], ["lag", 1], ["total", 1],
                 "none", (), None, 0, ("other",), ("other", 1), (["none"],), (("none",),), ("None",), {"none": 0}]
        self.check(is_promise, right, wrong)

    def test_pairs(self):
        right = [(a, b) for a in (1, 2, 3) for b in (1, 2, 3)]
        wrong = [(0, 1), (1, 0), (4, 1), (1, 4), (1,), (1, 1, 1), (), [1, 1], (True, 1), (1, True), (None, 1),
                 ("1", 1), None, 1, "11", {1: 1, 2: 2}]
        self.check(is_pair, right, wrong)

    def test_going_ons(self):
        right = [((), ()), ((0,), ()), ((), (BIG,)), ((1, 2), (3,))]
        wrong = [(), ((),), ((), (), ()), [(), ()], ([], ()), ((), []), ((-1,), ()), ((), (True,)), (None, ()),
                 ((), None), "", None, (0, 0), ((), (BIG + 1,)), {(): 1, (0,): 2}]
        self.check(is_going_on, right, wrong)

    def test_any_value(self):
        for tell in ALL:
            for thing in odd_values():
                self.assertIn(tell(thing), (True, False))
                self.assertIsInstance(tell(thing), bool)

    def test_each_odd_value_is_what_it_is(self):
        told = {tell.__name__: [thing for thing in odd_values() if tell(thing)] for tell in ALL}
        self.assertEqual(told["is_integer"], [0, 1, -1, BIG, BIG + 1, 10 ** 39, -10 ** 39])
        self.assertEqual(told["is_letter"], [0, 1, BIG])
        self.assertEqual(told["is_text"], [(), (0,), (0, 0), tuple(range(2999))])
        self.assertEqual(told["is_side"], ["left"])
        self.assertEqual(told["is_script"], ["", "k", "k" * 3000])
        self.assertEqual(told["is_promise"], [("none",)])
        self.assertEqual(told["is_pair"], [])
        self.assertEqual(told["is_going_on"], [((), ())])

    def test_module_lists_them(self):
        for tell in ALL:
            self.assertIs(getattr(letters, tell.__name__), tell)


if __name__ == "__main__":
    unittest.main()
