import unittest

from helpers import (NONE, PLAIN, UNEVEN, all_scripts, random_prices, random_text, rng, slow_allowed, slow_points,
                     slow_price)
from saidearly.errors import NotAScript
from saidearly.scripts import fits, is_allowed, kept, points, price, turned, widest


class Scripts(unittest.TestCase):
    """[20]"""

    def not_a_script(self, index, script, left, right):
        self.assertIs(fits(script, left, right), False)
        with self.assertRaises(NotAScript) as caught:
            price(script, left, right, PLAIN)
        self.assertEqual(caught.exception.index, index)

    def test_points(self):
        self.assertEqual(points(""), [(0, 0)])
        self.assertEqual(points("kdp"), [(0, 0), (1, 1), (2, 1), (2, 2)])
        self.assertEqual(points("ppd"), [(0, 0), (0, 1), (0, 2), (1, 2)])

    def test_kept(self):
        self.assertEqual(kept(""), [])
        self.assertEqual(kept("dp"), [])
        self.assertEqual(kept("kdkpk"), [(0, 0), (2, 1), (3, 3)])

    def test_widest(self):
        self.assertEqual(widest(""), 0)
        self.assertEqual(widest("kkk"), 0)
        self.assertEqual(widest("ddppp"), 2)
        self.assertEqual(widest("dpp"), 1)
        self.assertEqual(widest("pppdddd"), 3)
        self.assertEqual(widest("dddd"), 4)
        self.assertEqual(widest("kp"), 1)

    def test_is_allowed(self):
        self.assertIs(is_allowed("", ("lag", 1)), True)
        self.assertIs(is_allowed("dddpppp", ("lag", 3)), True)
        self.assertIs(is_allowed("dddpppp", ("lag", 2)), False)
        self.assertIs(is_allowed("pppdddd", ("lag", 2)), False)
        self.assertIs(is_allowed("kkdd", ("lag", 1)), False)
        self.assertIs(is_allowed("kkdd", ("lag", 2)), True)
        self.assertIs(is_allowed("ddppk", ("lag", 1)), False)
        self.assertIs(is_allowed("p" * 1000, NONE), True)
        self.assertIs(is_allowed("p" * 1000, ("total", 0)), True)

    def test_turned(self):
        self.assertEqual(turned(""), "")
        self.assertEqual(turned("kdpdd"), "kpdpp")

    def test_fits(self):
        self.assertIs(fits("", (), ()), True)
        self.assertIs(fits("kdp", (1, 2), (1, 3)), True)
        self.assertIs(fits("kpd", (1, 2), (1, 3)), True)
        self.assertIs(fits("k", (10 ** 9,), (10 ** 9,)), True)

    def test_price(self):
        self.assertEqual(price("", (), (), UNEVEN), 0)
        self.assertEqual(price("kdp", (1, 0), (1, 2), UNEVEN), 2 + 4)
        self.assertEqual(price("kdp", (1, 0), (1, 2), UNEVEN.turned()), 3 + 1)
        self.assertEqual(price("dpdp", (0, 1), (1, 2), UNEVEN), 2 + 1 + 9 + 4)
        self.assertEqual(price("kkk", (1, 2, 3), (1, 2, 3), UNEVEN), 0)
        self.assertEqual(price("dp", (7,), (8,), UNEVEN), 2)

    def test_letters_unequal(self):
        self.not_a_script(0, "k", (1,), (2,))
        self.not_a_script(1, "kk", (1, 2), (1, 3))
        self.not_a_script(2, "dkk", (5, 1, 2), (1, 3))

    def test_no_letter_left(self):
        self.not_a_script(0, "k", (), ())
        self.not_a_script(0, "k", (1,), ())
        self.not_a_script(0, "k", (), (1,))
        self.not_a_script(0, "d", (), (1,))
        self.not_a_script(0, "p", (1,), ())
        self.not_a_script(1, "kd", (1,), (1,))
        self.not_a_script(1, "kp", (1,), (1,))
        self.not_a_script(1, "kk", (1,), (1,))
        self.not_a_script(2, "ddd", (1, 1), (1, 1))

    def test_letters_left_over(self):
        self.not_a_script(0, "", (1,), ())
        self.not_a_script(0, "", (), (1,))
        self.not_a_script(1, "k", (1,), (1, 1))
        self.not_a_script(1, "k", (1, 1), (1,))
        self.not_a_script(2, "dp", (1, 1), (1,))

    def test_the_first_step_that_cannot_be_done_counts(self):
        self.not_a_script(1, "kdkk", (1,), (1, 2))
        self.not_a_script(1, "dkp", (1, 2), (3,))

    def test_long_scripts(self):
        script = "kdp" * 30000
        self.assertEqual(len(points(script)), 90001)
        self.assertEqual(points(script)[-1], (60000, 60000))
        self.assertEqual(len(kept(script)), 30000)
        self.assertEqual(widest(script), 1)
        self.assertEqual(turned(turned(script)), script)
        left = (1, 2) * 30000
        right = (1, 3) * 30000
        self.assertEqual(price(script, left, right, PLAIN), 60000)

    def test_all_scripts_of_small_texts(self):
        chance = rng(20)
        for _ in range(40):
            left = random_text(chance, 4, 2)
            right = random_text(chance, 4, 2)
            prices = random_prices(chance)
            scripts = all_scripts(left, right)
            for script in scripts:
                self.assertIs(fits(script, left, right), True)
                self.assertEqual(price(script, left, right, prices), slow_price(script, left, right, prices))
                self.assertEqual(price(turned(script), right, left, prices.turned()),
                                 slow_price(script, left, right, prices))
                self.assertEqual(points(script), slow_points(script))
                for lag in range(1, 5):
                    self.assertEqual(is_allowed(script, ("lag", lag)), slow_allowed(script, ("lag", lag)))
            longest = len(left) + len(right)
            for _ in range(40):
                script = "".join(chance.choice("kdp") for _ in range(chance.randint(0, longest)))
                self.assertIs(fits(script, left, right), script in scripts)
                if script not in scripts:
                    firsts = [k for k in range(len(script))
                              if not any(whole.startswith(script[:k + 1]) for whole in scripts)]
                    self.not_a_script(firsts[0] if firsts else len(script), script, left, right)

    def test_what_is_returned_is_new(self):
        points("kd").append(None)
        kept("kd").append(None)
        self.assertEqual(points("kd"), [(0, 0), (1, 1), (2, 1)])
        self.assertEqual(kept("kd"), [(0, 0)])


if __name__ == "__main__":
    unittest.main()
