import unittest

from helpers import rng
from saidearly.errors import BadLine, KeepNotShown
from saidearly.rulebooks import Rulebook
from saidearly.ruletext import read_rules, write_rules
from test_rulebooks import KEEP, SAME, rule

HEAD = "window 2 marks 2\n"
GOOD = "any if same 0 0 do k then 0\n"


def random_rule(chance, window, marks):
    """Some rule whose keeps are shown."""
    while True:
        deeds = "".join(chance.choice("kdp") for _ in range(chance.randint(1, 4)))
        spots, i, j = [], 0, 0
        for step in deeds:
            if step == "k":
                spots.append(("same", i, j))
            i += step in "kd"
            j += step in "kp"
        if i > window or j > window:
            continue
        tests = list(spots)
        for _ in range(chance.randint(0, 2)):
            a, b = chance.randrange(window), chance.randrange(window)
            side = chance.choice(["left", "right"])
            tests.append(chance.choice([("same", a, b), ("unlike", a, b), ("many", side, a + 1)]))
            if a < b and chance.random() < 0.5:
                tests.append(("twin", side, a, b))
        chance.shuffle(tests)
        if len(tests) <= 4:
            return chance.choice([None] + list(range(marks))), tuple(tests), deeds, chance.randrange(marks)


def random_book(chance, windows=(1, 4), most=8):
    window, marks = chance.randint(*windows), chance.randint(1, 3)
    return Rulebook(window, marks, tuple(random_rule(chance, window, marks) for _ in range(chance.randint(0, most))))


class Writing(unittest.TestCase):
    """[62]: write_rules"""

    def test_a_book_without_rules(self):
        self.assertEqual(write_rules(Rulebook(1, 1, ())), "window 1 marks 1\n")
        self.assertEqual(write_rules(Rulebook(4, 3, ())), "window 4 marks 3\n")

    def test_rules(self):
        book = Rulebook(3, 2, (KEEP, rule(), (1, (("twin", "left", 0, 2), ("many", "right", 3)), "dp", 1),
                               (0, (("same", 0, 0), ("unlike", 1, 2), ("twin", "right", 1, 2), ("many", "left", 1)),
                                "kddp", 0)))
        self.assertEqual(write_rules(book),
                         "window 3 marks 2\n"
                         "any if same 0 0 do k then 0\n"
                         "any do d then 0\n"
                         "1 if twin left 0 2 and many right 3 do dp then 1\n"
                         "0 if same 0 0 and unlike 1 2 and twin right 1 2 and many left 1 do kddp then 0\n")

    def test_what_was_written_reads_back(self):
        chance = rng(620)
        for _ in range(300):
            book = random_book(chance)
            text = write_rules(book)
            self.assertTrue(read_rules(text) == book)
            self.assertEqual(write_rules(read_rules(text)), text)


class Reading(unittest.TestCase):
    """[62]: read_rules"""

    def bad(self, line, text):
        with self.assertRaises(BadLine, msg=repr(text)) as caught:
            read_rules(text)
        self.assertEqual(caught.exception.line, line, repr(text))

    def test_some(self):
        self.assertTrue(read_rules("window 1 marks 1\n") == Rulebook(1, 1, ()))
        self.assertTrue(read_rules(HEAD + GOOD) == Rulebook(2, 2, (KEEP,)))
        self.assertTrue(read_rules(HEAD + "1 do dp then 1\n") == Rulebook(2, 2, (rule((), "dp", 1, 1),)))
        self.assertIsInstance(read_rules(HEAD), Rulebook)

    def test_empty_and_lacking_line_feeds(self):
        self.bad(0, "")
        self.bad(0, "\n")
        self.bad(0, "window 1 marks 1")
        self.bad(0, " ")
        self.bad(1, HEAD + "\n")
        self.bad(1, HEAD + " \n")
        self.bad(1, HEAD + GOOD[:-1])
        self.bad(1, HEAD + "x")
        self.bad(2, HEAD + GOOD + " ")
        self.bad(2, HEAD + GOOD + "\n")
        self.bad(2, HEAD + GOOD + GOOD[:-1])
        self.bad(1, HEAD + "\n" + GOOD)
        self.bad(0, "\n" + HEAD)

    def test_heads(self):
        for line in ["window 1 marks", "window 1", "window", "marks 1 window 1", "window 0 marks 1", "window 5 marks 1",
                     "window 1 marks 0", "window 1 marks 4", "window 01 marks 1", "window 1 marks 01",
                     "window 10 marks 1", "window  1 marks 1", "window 1  marks 1", " window 1 marks 1",
                     "window 1 marks 1 ", "window 1 marks 1 1", "Window 1 marks 1", "window 1 Marks 1",
                     "window one marks 1", "window -1 marks 1", "window +1 marks 1", "window 1, marks 1",
                     "window 1 mark 1", "window any marks 1", "window  marks 1", "window 1 marks ", GOOD[:-1],
                     "window 1 marks True", "window 1_ marks 1"]:
            self.bad(0, line + "\n")
            self.bad(0, line + "\nnonsense\n")

    def test_rules(self):
        for line in ["any if same 0 0 do k then 2", "2 if same 0 0 do k then 0", "0 if same 0 2 do d then 0",
                     "any if same 0 0 do k then", "any if same 0 0 do k", "any if same 0 0 do then 0", "any if do d then 0",
                     "any same 0 0 do k then 0", "any if same 0 0 then 0", "if same 0 0 do k then 0",
                     "any if same 0 0 and do k then 0", "any if and same 0 0 do k then 0",
                     "any if same 0 0 and and same 0 0 do k then 0", "any if same 0 0 same 0 0 do k then 0",
                     "any if same 0 do k then 0", "any if same 00 0 do k then 0", "any if same 0 0 do k then 00",
                     "00 do d then 0", "any do d then any", "Any do d then 0", "None do d then 0", " any do d then 0",
                     "any do d then 0 ", "any  do d then 0", "any do  d then 0", "any do d  then 0", "any do d then  0",
                     "any do dx then 0", "any do D then 0", "any do ddd then 0", "any do 0 then 0", "any do then 0",
                     "any do  then 0", "any if twin left 1 0 do d then 0", "any if twin both 0 1 do d then 0",
                     "any if twin 0 0 1 do d then 0", "any if many left 0 do d then 0", "any if many left 3 do d then 0",
                     "any if many 0 1 do d then 0", "any if same left 0 do d then 0", "any if same 0,0 do d then 0",
                     "any if many left 1 and many left 1 and many left 1 and many left 1 and many left 1 do d then 0",
                     "any or many left 1 do d then 0", "any if not many left 1 do d then 0", "3 do d then 0",
                     "any if do do d then 0", "any do d then 0 0", "any any do d then 0", "do d then 0", "any",
                     "window 2 marks 2", "- do d then 0", "any if same 0 0  do k then 0", "any do d do d then 0",
                     "any if none do d then 0", "any if  do d then 0", "any do d then -1", "any if same 0 0 do k next 0"]:
            self.bad(1, HEAD + line + "\n")
            self.bad(2, HEAD + GOOD + line + "\n" + "nonsense\n")

    def test_the_mark_of_a_rule(self):
        for marks in (1, 2, 3):
            for mark in range(5):
                text = "window 1 marks " + str(marks) + "\n" + str(mark) + " do d then 0\n"
                if mark < marks:
                    self.assertEqual(read_rules(text).rules(), ((mark, (), "d", 0),))
                else:
                    self.bad(1, text)

    def test_a_rule_has_to_be_one_for_line_0(self):
        self.assertEqual(len(read_rules("window 3 marks 1\nany do ddd then 0\n").rules()), 1)
        self.bad(1, "window 2 marks 1\nany do ddd then 0\n")
        self.bad(1, "window 1 marks 1\nany if twin left 0 1 do d then 0\n")

    def test_a_ninth_rule(self):
        self.assertEqual(len(read_rules(HEAD + GOOD * 8).rules()), 8)
        self.bad(9, HEAD + GOOD * 9)
        self.bad(9, HEAD + GOOD * 12)
        self.bad(9, HEAD + GOOD * 8 + "x")
        self.bad(9, HEAD + GOOD * 8 + "nonsense\n" + GOOD)
        self.bad(3, HEAD + GOOD * 2 + "nonsense\n" + GOOD * 7)
        # The ninth rule is bad before its keep is asked for.
        self.bad(9, HEAD + "any do k then 0\n" * 9)

    def test_keeps_that_are_not_shown(self):
        for text, number in [("any do k then 0\n", 0), (GOOD + "any do dk then 0\n", 1),
                             (GOOD + "1 if same 0 1 do k then 0\n" + "any do k then 0\n", 1)]:
            with self.assertRaises(KeepNotShown) as caught:
                read_rules(HEAD + text)
            self.assertEqual(caught.exception.rule, number)

    def test_a_bad_line_comes_before_a_keep(self):
        self.bad(2, HEAD + "any do k then 0\n" + "nonsense\n")
        self.bad(2, HEAD + "any do k then 0\n" + "nonsense")
        self.bad(3, HEAD + "any do k then 0\n" + GOOD + " ")

    def test_one_change_in_what_was_written(self):
        """A changed text is refused, or reads as the book that writes it."""
        chance = rng(621)
        refused = 0
        for _ in range(1500):
            text = write_rules(random_book(chance, most=3))
            at = chance.randrange(len(text))
            changed = text[:at] + chance.choice(["", " ", "\n", "0", "9", "k", "any", "~"]) + text[at + chance.randint(0, 1):]
            try:
                book = read_rules(changed)
            except BadLine as error:
                refused += 1
                self.assertLessEqual(error.line, changed.count("\n"))
            except KeepNotShown:
                pass
            else:
                self.assertEqual(write_rules(book), changed)
        self.assertGreater(refused, 900)

    def test_any_string(self):
        letters = [chr(code) for code in range(32, 127)] + ["\n"]
        chance = rng(622)
        for _ in range(300):
            text = "".join(chance.choice(letters) for _ in range(chance.randint(0, 60)))
            self.bad(0, text)
        self.bad(0, "~" * 3000)
        self.bad(0, "\n" * 3000)
        self.bad(1, HEAD + "\n" * 3000)


class Tests(unittest.TestCase):
    def test_same_tests_twice(self):
        book = Rulebook(1, 1, ((None, (SAME, SAME, SAME, SAME), "k", 0),))
        self.assertTrue(read_rules(write_rules(book)) == book)


if __name__ == "__main__":
    unittest.main()
