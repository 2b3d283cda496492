import unittest

from helpers import NONE, PLAIN, odd_values, random_saying, random_text, rng
from saidearly.errors import EarlyError, NoSaying, NoSuchLetter
from saidearly.lanes import Lane
from saidearly.sayings import atoms, holds, is_saying
from test_standings import made

KEPT = ("kept", 0, 0)
ALONE = ("alone", "left", 1)
BEGINS = ("begins", "kd")


def nots(many, saying):
    for _ in range(many):
        saying = ("not", saying)
    return saying


def slow_holds(saying, left, right, script):
    """Whether a script holds a saying, step by step."""
    word = saying[0]
    if word == "not":
        return not slow_holds(saying[1], left, right, script)
    if word in ("and", "or"):
        told = [slow_holds(part, left, right, script) for part in saying[1:]]
        return all(told) if word == "and" else any(told)
    i, j = 0, 0
    keeps = []
    inside = 0
    for many, step in enumerate(script):
        can = {"k": left[i:i + 1] == right[j:j + 1] != (), "d": i < len(left), "p": j < len(right)}[step]
        if can and inside == many:
            inside += 1
        if step == "k":
            keeps.append((i, j))
        i += step in "kd"
        j += step in "kp"
    if word == "begins":
        return script[:len(saying[1])] == saying[1] and inside >= len(saying[1])
    if word == "kept":
        return (saying[1], saying[2]) in keeps
    if saying[1] == "left":
        return all(i != saying[2] or j >= len(right) for i, j in keeps)
    return all(j != saying[2] or i >= len(left) for i, j in keeps)


class Grammar(unittest.TestCase):
    """[40], [41]"""

    def right(self, thing):
        self.assertIs(is_saying(thing), True)
        self.assertIsInstance(atoms(thing), list)

    def wrong(self, thing):
        self.assertIs(is_saying(thing), False)
        standing = made((1, 2), (1, 2))
        for call in (lambda: atoms(thing), lambda: holds(thing, standing, "kk")):
            with self.assertRaises(NoSaying) as caught:
                call()
            self.assertIs(caught.exception.thing, thing)

    def test_atoms(self):
        for thing in [KEPT, ("kept", 7, 10 ** 30), ALONE, ("alone", "right", 0), BEGINS, ("begins", ""),
                      ("begins", "kdp" * 1000)]:
            self.right(thing)

    def test_no_atoms(self):
        for thing in [("kept", 0), ("kept",), ("kept", 0, 0, 0), ("kept", -1, 0), ("kept", 0, -1), ("kept", True, 0),
                      ("kept", 0, False), ("kept", None, 0), ("kept", "0", 0), ["kept", 0, 0], ("alone", "left"),
                      ("alone", "left", -1), ("alone", "left", True), ("alone", "both", 0), ("alone", 0, "left"),
                      ("alone", "left", 0, 0), ("alone", None, 0), ("alone", 0, 0), ["alone", "left", 0], ("begins",),
                      ("begins", "x"), ("begins", None), ("begins", 0), ("begins", "k", "k"), ("begins", ("k",)),
                      ["begins", "k"], ("begins", ["k"]), ("is", 0, 0), ("", 0, 0), (None, 0, 0), (0, 0, 0),
                      ((), 0, 0), "kept", "begins", ("Kept", 0, 0), ("kept", (0,), 0),
                      ("is", "left", 0), ("", "right", 1), (None, "left", 0), ("kept", "left", 0), ("is", "k"),
                      (0, ""), ("kept", "k"), ("alone", "k"), ("not", "k"), ("begins", "left", 0)]:
            self.wrong(thing)

    def test_words(self):
        for thing in [("not", KEPT), ("and", KEPT, ALONE), ("or", BEGINS, KEPT), ("and", KEPT, KEPT),
                      ("or", ("and", KEPT, BEGINS), ("not", ("or", ALONE, KEPT))), ("not", ("not", ALONE))]:
            self.right(thing)

    def test_no_words(self):
        for thing in [("not",), ("not", KEPT, KEPT), ("and", KEPT), ("and",), ("or", KEPT), ("and", KEPT, ALONE, KEPT),
                      ("or", KEPT, ALONE, KEPT), ["not", KEPT], ["and", KEPT, ALONE], ("not", ["kept", 0, 0]),
                      ("and", KEPT, None), ("or", None, KEPT), ("and", (KEPT, ALONE)), ("nor", KEPT, ALONE),
                      ("not", ()), ("and", (), ()), ("not", ("not",)), ("and", KEPT, ("kept", 0, True))]:
            self.wrong(thing)

    def test_four_atoms(self):
        four = ("and", ("and", KEPT, KEPT), ("or", ALONE, BEGINS))
        self.right(four)
        self.wrong(("and", four, KEPT))
        self.wrong(("or", KEPT, ("and", KEPT, ("and", KEPT, ("and", KEPT, KEPT)))))
        self.right(("or", KEPT, ("and", KEPT, ("and", KEPT, KEPT))))

    def test_eight_words(self):
        self.right(nots(8, KEPT))
        self.wrong(nots(9, KEPT))
        self.right(("and", nots(4, KEPT), nots(3, ALONE)))
        self.wrong(("and", nots(4, KEPT), nots(4, ALONE)))
        self.right(nots(5, ("or", KEPT, ("and", KEPT, ("or", KEPT, KEPT)))))
        self.wrong(nots(6, ("or", KEPT, ("and", KEPT, ("or", KEPT, KEPT)))))

    def test_begins_within_a_not(self):
        self.wrong(("not", BEGINS))
        self.wrong(("not", ("not", BEGINS)))
        self.wrong(("not", ("and", KEPT, BEGINS)))
        self.wrong(("not", ("or", ("and", BEGINS, KEPT), KEPT)))
        self.wrong(("and", KEPT, ("not", ("or", KEPT, BEGINS))))
        self.wrong(nots(8, BEGINS))
        self.wrong(("or", BEGINS, ("not", BEGINS)))
        self.right(("or", BEGINS, ("not", KEPT)))
        self.right(("and", ("not", KEPT), ("and", BEGINS, BEGINS)))

    def test_deep_values(self):
        self.wrong(nots(30, KEPT))
        self.wrong(nots(3000, KEPT))
        deep = KEPT
        for _ in range(2000):
            deep = ("and", KEPT, deep)
        self.wrong(deep)
        wide = KEPT
        for _ in range(11):
            wide = ("or", wide, wide)
        self.wrong(wide)

    def test_any_value(self):
        for thing in odd_values():
            self.wrong(thing)
            for around in (("not", thing), ("and", KEPT, thing), ("or", thing, KEPT), ("begins", [thing]),
                           (thing, 0, 0), (thing, KEPT), ("alone", [thing], 0)):
                self.wrong(around)

    def test_list_of_atoms(self):
        self.assertEqual(atoms(KEPT), [KEPT])
        self.assertEqual(atoms(("and", ALONE, ("or", KEPT, ALONE))), [ALONE, KEPT])
        self.assertEqual(atoms(("or", ("not", KEPT), ("and", BEGINS, ("begins", "")))), [KEPT, BEGINS, ("begins", "")])
        self.assertEqual(atoms(("or", ("and", KEPT, KEPT), ("and", KEPT, KEPT))), [KEPT])
        self.assertEqual(atoms(("and", ("alone", "right", 1), ALONE)), [("alone", "right", 1), ALONE])
        self.assertEqual(atoms(("and", ("kept", 1, 0), ("kept", 0, 1))), [("kept", 1, 0), ("kept", 0, 1)])

    def test_the_list_is_new(self):
        atoms(KEPT).clear()
        self.assertEqual(atoms(KEPT), [KEPT])


class Holding(unittest.TestCase):
    """[40], [41]"""

    def setUp(self):
        self.standing = made((1, 2, 3), (2, 3))

    def told(self, saying, script):
        return holds(saying, self.standing, script)

    def test_kept(self):
        self.assertIs(self.told(("kept", 1, 0), "dkk"), True)
        self.assertIs(self.told(("kept", 2, 1), "dkk"), True)
        self.assertIs(self.told(("kept", 1, 1), "dkk"), False)
        self.assertIs(self.told(("kept", 0, 1), "dkk"), False)
        self.assertIs(self.told(("kept", 0, 0), ""), False)
        self.assertIs(self.told(("kept", 0, 0), "dp"), False)

    def test_alone_left(self):
        self.assertIs(self.told(("alone", "left", 0), "dkk"), True)
        self.assertIs(self.told(("alone", "left", 1), "dkk"), False)
        self.assertIs(self.told(("alone", "left", 1), "dddppk"), True)
        # Kept with a letter that comes later.
        self.assertIs(self.told(("alone", "left", 0), "ppk"), True)
        self.assertIs(self.told(("alone", "left", 0), "pk"), False)
        self.assertIs(self.told(("alone", "left", 0), ""), True)

    def test_alone_right(self):
        self.assertIs(self.told(("alone", "right", 0), "dkk"), False)
        self.assertIs(self.told(("alone", "right", 0), "dddkk"), True)
        self.assertIs(self.told(("alone", "right", 0), "ddkk"), False)
        self.assertIs(self.told(("alone", "right", 1), "ddkk"), True)
        self.assertIs(self.told(("alone", "right", 1), "dpk"), False)
        self.assertIs(self.told(("alone", "right", 1), ""), True)

    def test_begins(self):
        for begin, script, wanted in [("", "", True), ("", "kdp", True), ("d", "dkk", True), ("dk", "dkk", True),
                                      ("dkk", "dkk", True), ("dkk", "dk", False), ("p", "dkk", False),
                                      ("k", "kkk", False), ("dkkk", "dkkk", False), ("dkkd", "dkkdp", False),
                                      ("dkkp", "dkkp", False), ("dddd", "dddd", False), ("ppp", "ppp", False),
                                      ("dddpp", "dddppkkk", True)]:
            self.assertIs(self.told(("begins", begin), script), wanted, (begin, script))

    def test_words(self):
        yes, no = ("kept", 1, 0), ("kept", 1, 1)
        for left, right in [(yes, yes), (yes, no), (no, yes), (no, no)]:
            self.assertIs(self.told(("and", left, right), "dkk"), left == yes and right == yes)
            self.assertIs(self.told(("or", left, right), "dkk"), left == yes or right == yes)
        self.assertIs(self.told(("not", yes), "dkk"), False)
        self.assertIs(self.told(("not", no), "dkk"), True)
        self.assertIs(self.told(("not", ("not", yes)), "dkk"), True)

    def test_scripts_that_fit_no_texts(self):
        self.assertIs(self.told(("kept", 0, 0), "kkkkkk"), True)
        self.assertIs(self.told(("kept", 2, 1), "dkkkkkkk"), True)
        self.assertIs(self.told(("alone", "left", 2), "kkkkkk"), True)
        self.assertIs(self.told(("alone", "right", 1), "k" * 3000), False)

    def test_no_such_letter(self):
        for saying, side, number in [
                (("kept", 3, 0), "left", 3), (("kept", 0, 2), "right", 2), (("kept", 5, 6), "left", 5),
                (("alone", "left", 3), "left", 3), (("alone", "right", 2), "right", 2),
                (("not", ("alone", "right", 9)), "right", 9),
                (("and", ("alone", "right", 2), ("kept", 3, 0)), "right", 2),
                (("or", ("kept", 0, 0), ("and", ("kept", 0, 7), ("alone", "left", 8))), "right", 7),
                (("or", ("and", BEGINS, ("kept", 9, 7)), ("alone", "left", 8)), "left", 9),
                (("kept", 10 ** 39, 10 ** 39), "left", 10 ** 39)]:
            with self.assertRaises(NoSuchLetter) as caught:
                self.told(saying, "dkk")
            self.assertEqual((caught.exception.side, caught.exception.number), (side, number))
            self.assertIsInstance(atoms(saying), list)
        for saying in [("kept", 2, 1), ("alone", "left", 2), ("alone", "right", 1)]:
            self.assertIsInstance(self.told(saying, ""), bool)

    def test_no_saying_comes_before_no_such_letter(self):
        for thing in [("and", ("kept", 9, 9), None), ("or", ("alone", "left", 9), ("not", BEGINS))]:
            with self.assertRaises(NoSaying) as caught:
                self.told(thing, "dkk")
            self.assertIs(caught.exception.thing, thing)

    def test_empty_heads(self):
        standing = made((), ())
        self.assertIs(holds(("begins", ""), standing, "kk"), True)
        self.assertIs(holds(("begins", "k"), standing, "kk"), False)
        for saying, side in [(("kept", 0, 0), "left"), (("alone", "right", 0), "right")]:
            with self.assertRaises(NoSuchLetter) as caught:
                holds(saying, standing, "")
            self.assertEqual((caught.exception.side, caught.exception.number), (side, 0))

    def test_closed_sides_and_promises_do_not_matter(self):
        for promise in (NONE, ("lag", 1), ("total", 60)):
            standing = made((1, 2), (1, 2), PLAIN, promise, ("left", "right"))
            self.assertIs(holds(("begins", "ddpp"), standing, "ddpp"), True)

    def test_against_a_slow_way(self):
        chance = rng(40)
        for _ in range(1500):
            left, right = random_text(chance, 3, 2), (1,) + random_text(chance, 3, 2)
            saying = random_saying(chance, len(left), len(right))
            standing = made(left, right)
            script = "".join(chance.choice("kkdp") for _ in range(chance.randint(0, 6)))
            if is_saying(saying):
                self.assertIs(holds(saying, standing, script), slow_holds(saying, left, right, script))
            else:
                with self.assertRaises(EarlyError):
                    holds(saying, standing, script)

    def test_errors_bear_any_value(self):
        for thing in (Lane(), [Lane()], {"a": 1}):
            with self.assertRaises(NoSaying) as caught:
                self.told(thing, "")
            self.assertIs(caught.exception.thing, thing)


if __name__ == "__main__":
    unittest.main()
