import unittest

from helpers import odd_values, rng
from saidearly.errors import BadRule, NoRule, TooMany
from saidearly.rulebooks import Rulebook
from saidearly.ruletext import read_rules
from saidearly.trims import least_window, needless, without_rule
from saidearly.versus import same_scripts
from test_machines import patterns_of_length
from test_rulebooks import KEEP, SAME, rule
from test_ruletext import random_book
from test_speakers import equal_texts, slow_spoken
from test_versus import DEEP


class Without(unittest.TestCase):
    """[82]: without_rule"""

    def test_each_rule(self):
        rules = (KEEP, rule((), "d", 1, 1), rule((("many", "left", 2),), "p"))
        book = Rulebook(2, 2, rules)
        self.assertEqual(without_rule(book, 0), Rulebook(2, 2, rules[1:]))
        self.assertEqual(without_rule(book, 1), Rulebook(2, 2, (rules[0], rules[2])))
        self.assertEqual(without_rule(book, 2), Rulebook(2, 2, rules[:2]))
        self.assertEqual(book.rules(), rules)
        self.assertEqual(without_rule(Rulebook(1, 1, (KEEP,)), 0), Rulebook(1, 1, ()))
        self.assertEqual(without_rule(Rulebook(1, 1, (KEEP, KEEP)), 1), Rulebook(1, 1, (KEEP,)))

    def test_no_rule(self):
        for rules in ((), (KEEP,), (KEEP,) * 8):
            book = Rulebook(2, 2, rules)
            for thing in [-1, -8, len(rules), 8, 10 ** 39, True, False, None, "0", (0,), [0]] + odd_values():
                if thing in range(len(rules)) and not isinstance(thing, bool):
                    continue
                with self.assertRaises(NoRule) as caught:
                    without_rule(book, thing)
                self.assertIs(caught.exception.rule, thing)


class Needless(unittest.TestCase):
    """[82]: needless"""

    def test_no_rules(self):
        for window in (1, 2, 3, 4):
            self.assertEqual(needless(Rulebook(window, 2, ())), [])

    def test_rules_that_are_twice_there(self):
        self.assertEqual(needless(Rulebook(2, 1, (KEEP, KEEP))), [0, 1])
        self.assertEqual(needless(Rulebook(2, 1, (KEEP,))), [])
        self.assertEqual(needless(Rulebook(1, 1, (KEEP, rule((), "dp"), KEEP))), [1, 2])

    def test_rules_that_never_go(self):
        book = read_rules("window 2 marks 3\n1 do d then 2\nany if same 0 0 do k then 0\n2 do p then 1\n")
        self.assertEqual(needless(book), [0, 2])
        self.assertIsNone(same_scripts(book, without_rule(without_rule(book, 2), 0)))

    def test_against_all_short_texts(self):
        chance = rng(820)
        met = 0
        some = 0
        while met < 40:
            book = random_book(chance, (1, 2), 4)
            try:
                found = needless(book)
            except TooMany as error:
                self.assertEqual(error.count, 601)
                continue
            met += 1
            some += bool(found)
            self.assertEqual(found, sorted(found))
            for number in range(len(book.rules())):
                other = without_rule(book, number)
                texts = patterns_of_length(2) + [equal_texts(chance, 10, 3) for _ in range(20)]
                alike = all(slow_spoken(book, (1, 1), *pair) == slow_spoken(other, (1, 1), *pair) for pair in texts)
                if number in found:
                    self.assertTrue(alike)
                else:
                    left, right = same_scripts(book, other)
                    self.assertNotEqual(slow_spoken(book, (1, 1), left, right), slow_spoken(other, (1, 1), left, right))
        self.assertGreater(some, 5)

    def test_too_many(self):
        # The last rule never goes, so that no texts show a difference.
        with self.assertRaises(TooMany) as caught:
            needless(Rulebook(4, 3, DEEP.rules() + (rule((SAME, ("unlike", 0, 0)), "p"),)))
        self.assertEqual(caught.exception.count, 601)


class Windows(unittest.TestCase):
    """[82]: least_window"""

    def test_books_without_rules(self):
        for window in (1, 2, 3, 4):
            self.assertEqual(least_window(Rulebook(window, 3, ())), window)

    def test_less_is_enough(self):
        drop = rule((), "d"), rule((), "p")
        for window in (1, 2, 3, 4):
            self.assertEqual(least_window(Rulebook(window, 1, drop)), 1)
            self.assertEqual(least_window(Rulebook(window, 1, (KEEP,) + drop)), 1)
        late = rule((("many", "left", 2), ("many", "right", 2)), "dp")
        self.assertEqual(least_window(Rulebook(3, 1, (late,))), 2)
        self.assertEqual(least_window(Rulebook(4, 1, (late,))), 2)

    def test_tests_that_reach_so_far(self):
        """Such a rule is none with less, whether it ever goes or not."""
        drop = rule((), "d"), rule((), "p")
        for test in (("same", 0, 2), ("same", 2, 0), ("unlike", 0, 2), ("unlike", 2, 0), ("twin", "left", 0, 2),
                     ("twin", "right", 1, 2), ("many", "left", 3), ("many", "right", 3)):
            with self.assertRaises(BadRule):
                Rulebook(2, 1, drop + (rule((test,), "d"),))
            for window in (3, 4):
                self.assertEqual(least_window(Rulebook(window, 1, drop + (rule((test,), "d"),))), 3)
        for test in (("same", 1, 1), ("twin", "left", 0, 1), ("many", "right", 2)):
            self.assertEqual(least_window(Rulebook(4, 1, drop + (rule((test,), "d"),))), 2)
        self.assertEqual(least_window(Rulebook(4, 1, drop + (rule((SAME,), "d"),))), 1)

    def test_deeds_that_reach_so_far(self):
        drop = rule((), "d"), rule((), "p")
        for deeds, least in (("ddd", 3), ("ppp", 3), ("dpdp", 2), ("dddd", 4), ("pd", 1), ("ddp", 2)):
            self.assertEqual(least_window(Rulebook(4, 1, drop + (rule((), deeds),))), least)

    def test_a_window_between_that_differs(self):
        # All windows from the least one on need not do.
        chance = rng(821)
        met = 0
        below = 0
        while met < 60:
            book = random_book(chance, (1, 3), 4)
            if chance.random() < 0.5:
                # Rules that leave little to the window.
                book = Rulebook(3, book.marks(), book.rules() + (rule((), "d"), rule((), "p")))
            try:
                found = least_window(book)
            except TooMany as error:
                self.assertEqual(error.count, 601)
                continue
            met += 1
            below += found < book.window()
            self.assertLessEqual(found, book.window())
            for window in range(1, book.window()):
                try:
                    other = Rulebook(window, book.marks(), book.rules())
                except BadRule:
                    self.assertNotEqual(found, window)
                    continue
                texts = same_scripts(book, other)
                if window < found:
                    self.assertNotEqual(slow_spoken(book, (1, 1), *texts), slow_spoken(other, (1, 1), *texts))
                if window == found:
                    self.assertIsNone(texts)
                    for pair in [equal_texts(chance, 10, 3) for _ in range(20)]:
                        self.assertEqual(slow_spoken(book, (1, 1), *pair), slow_spoken(other, (1, 1), *pair))
        self.assertGreater(below, 5)

    def test_its_own_window_asks_nothing(self):
        # With itself alone to compare with there are never too many.
        self.assertEqual(least_window(DEEP), 4)


if __name__ == "__main__":
    unittest.main()
