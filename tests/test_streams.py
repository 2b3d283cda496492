import unittest

from helpers import random_text, rng
from saidearly.deltas import is_delta, of_script, script_of
from saidearly.errors import BadLine, NotAScript
from saidearly.streams import Writer, read, written
from test_deltas import MOST, random_delta, random_script


class Writing(unittest.TestCase):
    """[96]: written"""

    def test_some(self):
        self.assertEqual(written([]), "")
        self.assertEqual(written([("keep", 1)]), "keep 1\n")
        self.assertEqual(written([("drop", MOST), ("put", (0,)), ("keep", 20), ("put", (MOST, 7, 10))]),
                         "drop 1000000000\nput 0\nkeep 20\nput 1000000000 7 10\n")

    def test_what_was_written_reads_back(self):
        chance = rng(960)
        for _ in range(200):
            delta, _ = random_delta(chance, random_text(chance, 12))
            self.assertEqual(read(written(delta)), delta)


class Reading(unittest.TestCase):
    """[96]: read"""

    def refused(self, text, line):
        with self.assertRaises(BadLine) as caught:
            read(text)
        self.assertEqual(caught.exception.line, line, text)

    def bad(self, line):
        """A line that is bad wherever it stands."""
        self.refused(line + "\n", 0)
        self.refused("keep 1\nput 5\n" + line + "\n", 2)
        self.refused("keep 1\n" + line + "\nbad\n", 1)
        if line:
            self.refused("put 5\n" + line, 1)

    def test_good_ones(self):
        self.assertEqual(read(""), [])
        self.assertEqual(read("keep 1\n"), [("keep", 1)])
        self.assertEqual(read("keep 1000000000\ndrop 999999999\nput 0 1000000000 0\n"),
                         [("keep", MOST), ("drop", MOST - 1), ("put", (0, MOST, 0))])
        self.assertEqual(read("put 1\ndrop 1\nput 1\nkeep 10\n"),
                         [("put", (1,)), ("drop", 1), ("put", (1,)), ("keep", 10)])

    def test_numbers(self):
        for word in ("keep", "drop"):
            for number in ("0", "00", "01", "001", "-1", "+1", "1.0", "1000000001", "9999999999", "10000000000",
                           "00000000001", "0000000001", "1" * 11, "1" * 1000, "1_0", "0x1", "one", "", " 1", "1 ",
                           "1 1", "1 2 3", "~", "1e3", "True"):
                self.bad(word + " " + number)
        for number in ("00", "01", "-1", "+1", "1000000001", "9999999999", "10000000000", "1" * 1000, "1_0", "", "a",
                       "0000000000", "1000000000 01", "5  6", " 5", "5 "):
            self.bad("put " + number)
        self.assertEqual(read("put 0\n"), [("put", (0,))])

    def test_words(self):
        for line in ("", " ", "keep", "drop", "put", "put ", "keep ", "Keep 1", "KEEP 1", "k 1", "keep1", "1", "1 keep",
                     " keep 1", "keep  1", "keep 1 ", "put  1", "put 1  2", "put 1 ", "kept 1", "say 1", "keep,1",
                     "put (1,)", "drop -", "~"):
            self.bad(line)

    def test_two_lines_of_one_word(self):
        self.refused("keep 1\nkeep 2\n", 1)
        self.refused("put 1\ndrop 2\ndrop 1\nkeep 0\n", 2)
        self.refused("put 1\nput 1\n", 1)
        self.refused("keep 1\ndrop 1\nkeep 1\nkeep 1", 3)
        # The line ahead is the first bad one.
        self.refused("keep 0\nkeep 1\n", 0)

    def test_line_feeds(self):
        self.refused("keep 1", 0)
        self.refused("keep 1\ndrop 1", 1)
        self.refused("keep 1\n ", 1)
        self.refused("keep 1\n~", 1)
        self.refused("keep 1\n\n", 1)
        self.refused("\n", 0)
        self.refused("\nkeep 1\n", 0)
        self.refused(" ", 0)
        self.refused("k", 0)

    def test_any_string(self):
        chance = rng(961)
        good = 0
        for _ in range(4000):
            text = written(random_delta(chance, random_text(chance, 4))[0])
            at = chance.randint(0, len(text))
            text = text[:at] + chance.choice(["", " ", "\n", "0", "1", "a", "~"]) + text[at + chance.randint(0, 1):]
            try:
                delta = read(text)
            except BadLine as error:
                self.assertTrue(0 <= error.line <= text.count("\n"))
                # What stands ahead of the line is good.
                ahead = "".join(line + "\n" for line in text.split("\n")[:error.line])
                self.assertEqual(written(read(ahead)), ahead)
                continue
            good += 1
            self.assertTrue(is_delta(delta))
            self.assertEqual(written(delta), text)
        self.assertGreater(good, 200)


class Streaming(unittest.TestCase):
    """[96]: Writer"""

    def test_nothing_is_told(self):
        writer = Writer()
        self.assertEqual((writer.close(), writer.close()), ("", ""))
        self.assertEqual((writer.say("", ()), writer.close()), ("", ""))

    def test_some(self):
        writer = Writer()
        self.assertEqual(writer.say("kk", ()), "")
        self.assertEqual(writer.say("k", ()), "")
        self.assertEqual(writer.say("", ()), "")
        self.assertEqual(writer.say("d", ()), "keep 3\n")
        self.assertEqual(writer.say("dpkp", (5, 6)), "drop 2\nput 5\nkeep 1\n")
        self.assertEqual(writer.say("p", (7,)), "")
        self.assertEqual(writer.say("pp", (8, 9)), "")
        self.assertEqual(writer.close(), "put 6 7 8 9\n")
        self.assertEqual(writer.close(), "")

    def test_behind_close_it_is_as_a_new_one(self):
        writer = Writer()
        writer.say("kd", ())
        self.assertEqual(writer.close(), "drop 1\n")
        self.assertEqual(writer.say("d", ()), "")
        self.assertEqual(writer.say("k", ()), "drop 1\n")
        self.assertEqual(writer.close(), "keep 1\n")

    def test_a_refused_say_changes_nothing(self):
        writer = Writer()
        writer.say("kkp", (1,))
        for steps, text, index in [("", (1,), 0), ("p", (), 0), ("kp", (), 1), ("kdk", (1,), 3), ("pdp", (1,), 2),
                                   ("ppk", (1, 2, 3), 3), ("k", (1,), 1)]:
            with self.assertRaises(NotAScript) as caught:
                writer.say(steps, text)
            self.assertEqual(caught.exception.index, index)
        self.assertEqual(writer.say("pk", (2,)), "put 1 2\n")
        self.assertEqual(writer.close(), "keep 1\n")

    def test_only_p_needs_letters(self):
        writer = Writer()
        self.assertEqual(writer.say("kkkdddp", (1,)), "keep 3\ndrop 3\n")

    def test_two_writers_by_turns(self):
        one, other = Writer(), Writer()
        self.assertEqual([one.say("k", ()), other.say("d", ()), one.say("k", ()), other.say("p", (1,)), one.close(),
                          other.close()], ["", "", "", "drop 1\n", "keep 2\n", "put 1\n"])

    def test_parts_of_scripts(self):
        """The lines together are those of the whole delta, and each line comes as soon as it can."""
        chance = rng(962)
        for _ in range(200):
            left, right = random_text(chance, 12), random_text(chance, 12)
            script = random_script(chance, left, right)
            delta = of_script(script, right)
            letters = [letter for word, load in delta if word == "put" for letter in load]
            writer, told, at, used = Writer(), "", 0, 0
            while at < len(script):
                steps = script[at:at + chance.randint(0, 4)]
                text = tuple(letters[used:used + steps.count("p")])
                told += writer.say(steps, text)
                at, used = at + len(steps), used + len(text)
                runs = written(delta_of_beginning(delta, at)[:-1])
                self.assertEqual(told, runs)
            told += writer.close()
            self.assertEqual(told, written(delta))
            self.assertEqual(script_of(read(told)), script)


def delta_of_beginning(delta, many):
    """The deeds of a delta that its first so many steps reach."""
    found = []
    for word, load in delta:
        if many <= 0:
            break
        found.append((word, load))
        many -= len(load) if word == "put" else load
    return found


if __name__ == "__main__":
    unittest.main()
