import unittest

from helpers import odd_values
from saidearly.errors import BadRule, EarlyError, KeepNotShown, Wrong
from saidearly.rulebooks import Rulebook

SAME = ("same", 0, 0)
KEEP = (None, (SAME,), "k", 0)


def rule(tests=(), deeds="d", mark=None, after=0):
    return mark, tests, deeds, after


class Making(unittest.TestCase):
    """[61], [R]"""

    def refused(self, kind, number, *arguments):
        with self.assertRaises(EarlyError) as caught:
            Rulebook(*arguments)
        self.assertIs(caught.exception.__class__, kind, arguments)
        self.assertEqual(list(vars(caught.exception).values()), [number], arguments)

    def good(self, thing, window=2, marks=2):
        self.assertEqual(Rulebook(window, marks, (thing,)).rules(), (thing,))

    def bad(self, thing, window=2, marks=2):
        self.refused(BadRule, 0, window, marks, (thing,))

    def test_what_it_returns(self):
        book = Rulebook(3, 2, (KEEP, rule((("many", "left", 3),), "dp", 1, 1)))
        self.assertEqual((book.window(), book.marks()), (3, 2))
        self.assertEqual(book.rules(), (KEEP, (1, (("many", "left", 3),), "dp", 1)))
        self.assertEqual(Rulebook(1, 1, ()).rules(), ())

    def test_windows_and_marks(self):
        for window in range(1, 5):
            for marks in range(1, 4):
                book = Rulebook(window, marks, ())
                self.assertEqual((book.window(), book.marks()), (window, marks))
        for thing in [0, 5, -1, True, False, None, "1", (1,), 10 ** 30] + odd_values():
            if thing == 1 and not isinstance(thing, bool):
                continue
            self.refused(Wrong, 0, thing, 1, ())
            self.refused(Wrong, 0, thing, None, None)
        for thing in [0, 4, -1, True, False, None, "1", (1,), 10 ** 30] + odd_values():
            if thing == 1 and not isinstance(thing, bool):
                continue
            self.refused(Wrong, 1, 1, thing, ())
            self.refused(Wrong, 1, 1, thing, [None])

    def test_what_is_no_tuple_of_rules(self):
        for thing in odd_values():
            if not isinstance(thing, tuple):
                self.refused(Wrong, 2, 2, 2, thing)
            elif len(thing) > 8:
                self.refused(Wrong, 2, 2, 2, thing)
            elif thing:
                self.refused(BadRule, 0, 2, 2, thing)
        self.refused(Wrong, 2, 2, 2, [KEEP])

    def test_eight_rules_and_a_ninth(self):
        self.assertEqual(len(Rulebook(2, 2, (KEEP,) * 8).rules()), 8)
        self.refused(Wrong, 2, 2, 2, (KEEP,) * 9)
        self.refused(Wrong, 2, 2, 2, (None,) * 9)
        self.refused(BadRule, 7, 2, 2, (KEEP,) * 7 + (None,))

    def test_the_first_bad_rule(self):
        self.refused(BadRule, 1, 2, 2, (KEEP, None, None))
        self.refused(BadRule, 2, 2, 2, (rule((), "k"), KEEP, rule((), "q")))
        self.refused(KeepNotShown, 0, 2, 2, (rule((), "k"), KEEP, rule((), "kk")))
        self.refused(KeepNotShown, 2, 2, 2, (KEEP, rule(), rule((), "kk")))

    def test_forms(self):
        for thing in [[None, (), "d", 0], (None, (), "d"), (None, (), "d", 0, 0), (), None, 0, "d",
                      (None, [], "d", 0), (None, (), ["d"], 0), (None, (), ("d",), 0), (None, None, "d", 0),
                      (None, (), None, 0), (None, (), "d", None)]:
            self.bad(thing)
        self.good((None, (), "d", 0))

    def test_any_value_in_each_place(self):
        for thing in odd_values():
            self.bad(thing)
            if thing is not None and not (thing in (0, 1) and not isinstance(thing, bool)):
                self.bad((thing, (), "d", 0))
            if thing != ():
                self.bad((None, thing, "d", 0))
            self.bad((None, (thing,), "d", 0))
            if thing != "k":
                self.bad((None, (), thing, 0))
            if not (thing in (0, 1) and not isinstance(thing, bool)):
                self.bad((None, (), "d", thing))
                self.bad((None, (("same", thing, 0),), "d", 0))
                self.bad((None, (("unlike", 0, thing),), "d", 0))
                self.bad((None, (("twin", "left", thing, 1),), "d", 0))
            self.bad((None, ((thing, 0, 0),), "d", 0))
            if thing not in ("left", "right"):
                self.bad((None, (("twin", thing, 0, 1),), "d", 0))
                self.bad((None, (("many", thing, 1),), "d", 0))
            if thing != 1 or isinstance(thing, bool):
                self.bad((None, (("twin", "right", 0, thing),), "d", 0))
                self.bad((None, (("many", "right", thing),), "d", 0))

    def test_marks_of_a_rule(self):
        for marks in range(1, 4):
            for mark in range(-1, 5):
                for place in (0, 3):
                    thing = list(rule())
                    thing[place] = mark
                    (self.good if 0 <= mark < marks else self.bad)(tuple(thing), 2, marks)
            self.good(rule(mark=None), 2, marks)
            self.bad((0, (), "d", None), 2, marks)
            for place in (0, 3):
                for truth in (True, False):
                    thing = list(rule())
                    thing[place] = truth
                    self.bad(tuple(thing), 2, marks)

    def test_bounds_of_tests(self):
        for window in range(1, 5):
            for i in range(-1, 6):
                for j in range(-1, 6):
                    inside = 0 <= i < window and 0 <= j < window
                    for test in [("same", i, j), ("unlike", i, j)]:
                        (self.good if inside else self.bad)(rule((test,)), window)
                    for side in ("left", "right"):
                        fair = inside and i < j
                        (self.good if fair else self.bad)(rule((("twin", side, i, j),)), window)
                for side in ("left", "right"):
                    (self.good if 1 <= i <= window else self.bad)(rule((("many", side, i),)), window)

    def test_forms_of_tests(self):
        for test in [("same", 0), ("same", 0, 0, 0), ("same", "left", 0), ("same", "left", 0, 1), ["same", 0, 0],
                     ("unlike", 0), ("unlike", 0, 1, 1), ("twin", 0, 1), ("twin", "left", 0), ("twin", "both", 0, 1),
                     ("twin", "left", 0, 1, 1), ["twin", "left", 0, 1], ("many", "left"), ("many", 1), ("many", 0, 1),
                     ("many", "both", 1), ("many", "left", 1, 1), ["many", "left", 1], ("Same", 0, 0), ("any", 0, 0),
                     (), ("same",), ("alone", "left", 0), ("same", True, 0), ("same", 0, False),
                     ("unlike", True, 0), ("many", "left", True), ("twin", "left", False, 1),
                     ("twin", "left", 0, True), None, 0, "same"]:
            self.bad(rule((test,)))

    def test_many_tests(self):
        self.good(rule((SAME,) * 4))
        self.bad(rule((SAME,) * 5))
        self.bad(rule([SAME]))
        self.bad(rule((SAME, SAME, SAME, None)))

    def test_deeds(self):
        for deeds in ["d", "p", "dp", "dd", "pp", "ddpp", "pdpd"]:
            self.good(rule((), deeds), 2)
        for deeds in ["", "x", "D", "d d", "ddp" + "pp", "ddd", "ppp", "dddp", "pppd"]:
            self.bad(rule((), deeds), 2)
        self.good(rule((), "dddp"), 3)
        self.good(rule((), "dddd"), 4)
        self.bad(rule((), "ddddp"), 4)
        self.bad(rule((), "ppppp"), 4)

    def test_no_more_letters_than_the_window(self):
        shown = (("same", 0, 0), ("same", 1, 1), ("same", 2, 2), ("same", 3, 3))
        for window in range(1, 5):
            for many in range(1, 6):
                fair = many <= min(window, 4)
                for deeds in ("d" * many, "p" * many):
                    (self.good if fair else self.bad)(rule((), deeds), window)
                (self.good if fair else self.bad)(rule(shown[:min(many, window)], "k" * many), window)
        self.bad(rule((SAME,), "kd"), 1)
        self.bad(rule((SAME,), "kp"), 1)
        self.bad(rule((SAME,), "dk"), 1)
        self.good(rule((), "dp"), 1)
        self.good(rule((SAME,), "kdp"), 2)
        self.bad(rule((SAME,), "kddp"), 2)

    def test_keeps_that_are_shown(self):
        for tests, deeds in [((SAME,), "k"), ((("same", 1, 0),), "dk"), ((("same", 0, 1),), "pk"),
                             ((("same", 1, 1),), "dpk"), ((("same", 1, 1), SAME), "kk"),
                             ((("same", 0, 0), ("same", 2, 1)), "kdk"), ((("same", 1, 2), SAME), "kpk"),
                             ((("unlike", 0, 0), SAME, ("many", "left", 1)), "kdp"), ((), "ddpp")]:
            self.good(rule(tests, deeds), 3)

    def test_keeps_that_are_not_shown(self):
        for tests, deeds in [((), "k"), ((("same", 0, 1),), "k"), ((SAME,), "dk"), ((SAME,), "pk"), ((SAME,), "kk"),
                             ((("same", 1, 1),), "kk"), ((("same", 0, 1),), "dk"), ((("same", 1, 0),), "pk"),
                             ((("unlike", 0, 0),), "k"), ((("twin", "left", 0, 1),), "k"), ((SAME,), "dpk"),
                             ((SAME, ("same", 1, 2)), "kdk")]:
            self.refused(KeepNotShown, 0, 3, 1, (rule(tests, deeds),))
            self.refused(KeepNotShown, 1, 3, 1, (KEEP, rule(tests, deeds), rule(tests, deeds)))


class Equality(unittest.TestCase):
    """[61]: =="""

    def test_equal(self):
        made = [Rulebook(2, 2, (KEEP, rule(mark=1))) for _ in range(2)]
        self.assertTrue(made[0] == made[1])
        self.assertFalse(made[0] != made[1])
        self.assertTrue(Rulebook(1, 1, ()) == Rulebook(1, 1, ()))

    def test_unequal(self):
        book = Rulebook(2, 2, (KEEP,))
        for other in [Rulebook(3, 2, (KEEP,)), Rulebook(2, 3, (KEEP,)), Rulebook(2, 2, ()),
                      Rulebook(2, 2, (KEEP, KEEP)), Rulebook(2, 2, ((0,) + KEEP[1:],))]:
            self.assertFalse(book == other)
            self.assertTrue(book != other)

    def test_other_values(self):
        book = Rulebook(2, 2, (KEEP,))
        for thing in odd_values() + [(2, 2, (KEEP,)), object()]:
            self.assertIs(book == thing, False)
            self.assertIs(thing == book, False)


if __name__ == "__main__":
    unittest.main()
