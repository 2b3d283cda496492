import itertools
import unittest

from helpers import PLAIN, UNEVEN, all_scripts, odd_values, random_prices, random_text, rng, slow_price, texts_up_to
from saidearly.deltas import applied, back, chained, cost, is_delta, of_script, put_by, script_of
from saidearly.errors import DoesNotFit, NotAScript

MOST = 10 ** 9


def random_script(chance, left, right):
    """Some script that fits two texts."""
    script, i, j = "", 0, 0
    while (i, j) != (len(left), len(right)):
        steps = ["d"] * (i < len(left)) + ["p"] * (j < len(right))
        if len(steps) == 2 and left[i] == right[j]:
            steps += ["k", "k", "k"]
        step = chance.choice(steps)
        script += step
        i += step in "kd"
        j += step in "kp"
    return script


def random_delta(chance, left, longest=8):
    """Some delta from a text, with a text to which it leads."""
    delta, at, right = [], 0, ()
    while at < len(left) or chance.random() < 0.5:
        word = chance.choice(["keep", "drop", "put"])
        if delta and delta[-1][0] == word or word != "put" and at == len(left):
            if at == len(left) and delta and delta[-1][0] == "put":
                break
            continue
        if word == "put":
            delta.append((word, tuple(chance.randrange(4) for _ in range(chance.randint(1, 3)))))
            right += delta[-1][1]
        else:
            many = chance.randint(1, len(left) - at)
            delta.append((word, many))
            if word == "keep":
                right += left[at:at + many]
            at += many
    return delta, right


def slow_chained(one, other):
    """Letter by letter of the text between: what is ahead of each letter and what becomes of it."""
    def unrolled(delta):
        return [(word, letter) for word, load in delta for letter in (load if word == "put" else [None] * load)]

    # For each place between, the drops of one and the puts of other, then the fate of the letter there.
    firsts, seconds = [[]], [[]]
    made, taken = [], []
    for word, letter in unrolled(one):
        if word == "drop":
            firsts[-1].append(("drop", 1))
        else:
            made.append((word, letter))
            firsts.append([])
    for word, letter in unrolled(other):
        if word == "put":
            seconds[-1].append(("put", (letter,)))
        else:
            taken.append(word)
            seconds.append([])
    units = []
    for at in range(len(made) + 1):
        units += firsts[at] + seconds[at]
        if at < len(made):
            word, letter = made[at]
            if word == "keep":
                units.append((taken[at], 1))
            elif taken[at] == "keep":
                units.append(("put", (letter,)))
    found = []
    for word, run in itertools.groupby(units, key=lambda unit: unit[0]):
        loads = [load for _, load in run]
        found.append((word, tuple(letter for load in loads for letter in load) if word == "put" else len(loads)))
    return found


class Telling(unittest.TestCase):
    """[95]: is_delta"""

    def test_deltas(self):
        for thing in ([], [("keep", 1)], [("drop", MOST)], [("keep", MOST)], [("put", (0,))], [("put", (MOST, 0))],
                      [("keep", 1), ("drop", 1), ("keep", 2), ("put", (5,)), ("drop", 3)], [("put", (1,)), ("drop", 1)],
                      [("drop", 1), ("put", (1,)), ("drop", 1), ("put", (1,))], [("put", tuple(range(200)))]):
            self.assertIs(is_delta(thing), True, thing)

    def test_no_deltas(self):
        good = ("keep", 1)
        for deed in (("keep", 0), ("keep", -1), ("keep", True), ("keep", MOST + 1), ("keep", None), ("keep", (1,)),
                     ("keep", "1"), ("drop", 0), ("drop", True), ("drop", MOST + 1), ("drop", False), ("put", ()),
                     ("put", 1), ("put", [1]), ("put", (True,)), ("put", (-1,)), ("put", (MOST + 1,)), ("put", ((1,),)),
                     ("keep",), ("keep", 1, 1), ("Keep", 1), ("k", 1), ("", 1), (None, 1), (1, "keep"), ["keep", 1],
                     ["put", (1,)], "keep 1", (), None, ({"keep": 1}, 1), ("put", None)):
            for thing in ([deed], [("put", (3,)), deed], [deed, ("put", (3,))], [("drop", 2), good, deed]):
                self.assertIs(is_delta(thing), False, thing)
        for thing in ((good,), ("keep", 1), (), {}, {"keep": 1}, None, "keep 1\n", 0, True):
            self.assertIs(is_delta(thing), False, thing)

    def test_neighbours(self):
        for pair in ([("keep", 1)] * 2, [("drop", 1), ("drop", 2)], [("put", (1,)), ("put", (2,))]):
            self.assertIs(is_delta(pair), False)
            self.assertIs(is_delta([("keep", 4), ("drop", 3)] + pair), False)
            self.assertIs(is_delta(pair[:1]), True)

    def test_any_value(self):
        for thing in odd_values():
            self.assertIs(is_delta(thing), thing == [] and isinstance(thing, list))
            self.assertIs(is_delta([thing]), False)
            self.assertIs(is_delta([("keep", thing)]), thing in (1, MOST) and not isinstance(thing, bool))


class Scripts(unittest.TestCase):
    """[95]: of_script, script_of, put_by"""

    def test_some(self):
        self.assertEqual(of_script("", ()), [])
        self.assertEqual(of_script("kkdppk", (1, 2, 8, 9, 3)), [("keep", 2), ("drop", 1), ("put", (8, 9)), ("keep", 1)])
        self.assertEqual(of_script("d" * 200, ()), [("drop", 200)])
        self.assertEqual(of_script("pppdp", (4, 5, 6, 7)), [("put", (4, 5, 6)), ("drop", 1), ("put", (7,))])
        self.assertEqual((script_of([]), put_by([])), ("", ()))
        self.assertEqual(script_of([("keep", 2), ("drop", 1), ("put", (8, 9)), ("keep", 1)]), "kkdppk")
        self.assertEqual(put_by([("put", (8, 9)), ("keep", 1), ("put", (8,))]), (8, 9, 8))

    def test_all_scripts_of_short_texts(self):
        for left, right in itertools.product(texts_up_to(3, 2), repeat=2):
            for script in all_scripts(left, right):
                delta = of_script(script, right)
                self.assertTrue(is_delta(delta))
                self.assertEqual(script_of(delta), script)
                self.assertEqual(applied(delta, left), right)
                spots = [j for j, step in enumerate(step for step in script if step in "kp") if step == "p"]
                self.assertEqual(put_by(delta), tuple(right[j] for j in spots))

    def test_not_a_script(self):
        for script, right, index in [("", (1,), 0), ("k", (), 0), ("p", (), 0), ("d", (1,), 1), ("dk", (), 1),
                                     ("kp", (1,), 1), ("kddkd", (1,), 3), ("kpd", (1, 2, 3), 3), ("ppkk", (1, 2, 3), 3),
                                     ("kdkdp", (1, 2), 4)]:
            with self.assertRaises(NotAScript) as caught:
                of_script(script, right)
            self.assertEqual(caught.exception.index, index)

    def test_keeps_need_not_be_of_equal_letters(self):
        # Nothing is known of the left text here.
        self.assertEqual(of_script("kk", (1, 2)), [("keep", 2)])


class Using(unittest.TestCase):
    """[95]: applied, cost, back"""

    def refused(self, delta, left, index):
        for call in (lambda: applied(delta, left), lambda: cost(delta, left, PLAIN), lambda: back(delta, left)):
            with self.assertRaises(DoesNotFit) as caught:
                call()
            self.assertEqual(caught.exception.index, index)

    def test_the_empty_delta(self):
        self.assertEqual((applied([], ()), cost([], (), UNEVEN), back([], ())), ((), 0, []))
        self.refused([], (1,), 0)

    def test_some(self):
        delta = [("keep", 2), ("drop", 1), ("put", (2, 0)), ("keep", 1)]
        self.assertEqual(applied(delta, (0, 1, 1, 9)), (0, 1, 2, 0, 9))
        self.assertEqual(cost(delta, (0, 1, 1, 9), UNEVEN), 9 + 4 + 3)
        self.assertEqual(back(delta, (0, 1, 1, 9)), [("keep", 2), ("put", (1,)), ("drop", 2), ("keep", 1)])
        self.assertEqual(applied([("put", (5,))], ()), (5,))
        self.assertEqual(back([("put", (5, 5))], ()), [("drop", 2)])

    def test_too_few_and_too_many_letters(self):
        delta = [("keep", 2), ("put", (4,)), ("drop", 3)]
        self.refused(delta, (), 0)
        self.refused(delta, (1,), 0)
        self.refused(delta, (1, 2), 2)
        self.refused(delta, (1, 2, 3, 4), 2)
        self.refused(delta, (1, 2, 3, 4, 5, 6), 3)
        self.refused([("put", (1,))], (1,), 1)
        self.refused([("keep", MOST)], (1, 2), 0)
        self.refused([("keep", 1), ("drop", MOST), ("put", (1,))], (1, 2), 1)

    def test_random_deltas(self):
        chance = rng(950)
        for _ in range(300):
            left = random_text(chance, 12)
            delta, right = random_delta(chance, left)
            self.assertTrue(is_delta(delta))
            self.assertEqual(applied(delta, left), right)
            prices = random_prices(chance)
            self.assertEqual(cost(delta, left, prices), slow_price(script_of(delta), left, right, prices))
            way = back(delta, left)
            self.assertTrue(is_delta(way))
            self.assertEqual(applied(way, right), left)
            self.assertEqual(back(way, right), delta)
            self.assertEqual(cost(way, right, prices.turned()), cost(delta, left, prices))
            self.assertEqual([word for word, _ in way],
                             [{"keep": "keep", "drop": "put", "put": "drop"}[word] for word, _ in delta])

    def test_200_letters(self):
        chance = rng(951)
        left, right = tuple(range(200)), tuple(range(100, 300))
        delta = of_script(random_script(chance, left, right), right)
        self.assertEqual(applied(delta, left), right)
        self.assertEqual(applied(back(delta, left), right), left)

    def test_nothing_is_changed(self):
        delta = [("keep", 1), ("put", (2,))]
        for call in (lambda: applied(delta, (1,)), lambda: back(delta, (1,)), lambda: chained(delta, [("drop", 2)]),
                     lambda: chained([("keep", 1)], delta)):
            call()
            self.assertEqual(delta, [("keep", 1), ("put", (2,))])
        back(delta, (1,)).clear()
        chained(delta, [("keep", 2)]).clear()
        self.assertEqual(delta, [("keep", 1), ("put", (2,))])


class Chaining(unittest.TestCase):
    """[95]: chained"""

    def test_some(self):
        self.assertEqual(chained([], []), [])
        self.assertEqual(chained([("keep", 3)], [("keep", 3)]), [("keep", 3)])
        self.assertEqual(chained([("keep", 3)], [("drop", 3)]), [("drop", 3)])
        self.assertEqual(chained([("put", (7,))], [("keep", 1)]), [("put", (7,))])
        self.assertEqual(chained([("put", (7,))], [("drop", 1)]), [])
        self.assertEqual(chained([("drop", 2)], []), [("drop", 2)])
        self.assertEqual(chained([], [("put", (1, 2))]), [("put", (1, 2))])
        self.assertEqual(chained([("drop", 1), ("put", (1, 2, 3)), ("keep", 1)], [("drop", 1), ("keep", 3)]),
                         [("drop", 1), ("put", (2, 3)), ("keep", 1)])

    def test_drops_and_puts_at_the_same_place(self):
        self.assertEqual(chained([("drop", 2)], [("put", (9,))]), [("drop", 2), ("put", (9,))])
        self.assertEqual(chained([("keep", 1), ("drop", 1)], [("put", (9,)), ("keep", 1)]),
                         [("put", (9,)), ("keep", 1), ("drop", 1)])
        self.assertEqual(chained([("drop", 1), ("keep", 1)], [("put", (9,)), ("keep", 1)]),
                         [("drop", 1), ("put", (9,)), ("keep", 1)])
        self.assertEqual(chained([("drop", 1), ("put", (5,)), ("drop", 1), ("put", (6,))],
                                 [("put", (7,)), ("drop", 1), ("put", (8,)), ("keep", 1)]),
                         [("drop", 1), ("put", (7,)), ("drop", 1), ("put", (8, 6))])
        # The letter between two places is left out, and the places stay two.
        self.assertEqual(chained([("put", (5,)), ("drop", 1)], [("put", (7,)), ("drop", 1)]),
                         [("put", (7,)), ("drop", 1)])
        self.assertEqual(chained([("drop", 1), ("put", (5,)), ("drop", 1)], [("drop", 1)]), [("drop", 2)])
        self.assertEqual(chained([("put", (5,))], [("put", (7,)), ("drop", 1), ("put", (8,))]), [("put", (7, 8))])

    def test_neighbours_are_joined(self):
        self.assertEqual(chained([("keep", 1), ("put", (5,)), ("keep", 1)], [("keep", 1), ("drop", 1), ("keep", 1)]),
                         [("keep", 2)])
        self.assertEqual(chained([("drop", 1), ("keep", 1)], [("drop", 1)]), [("drop", 2)])
        self.assertEqual(chained([("put", (5,)), ("keep", 1)], [("keep", 1), ("put", (6,)), ("keep", 1)]),
                         [("put", (5, 6)), ("keep", 1)])

    def test_does_not_fit(self):
        one = [("drop", 3), ("put", (1, 2)), ("keep", 2)]
        for other, index in [([], 0), ([("keep", 3)], 1), ([("keep", 5)], 0), ([("put", (1,)), ("drop", 5)], 1),
                             ([("keep", 2), ("drop", 3)], 1), ([("keep", 2), ("put", (1,))], 2), ([("drop", MOST)], 0)]:
            with self.assertRaises(DoesNotFit) as caught:
                chained(one, other)
            self.assertEqual(caught.exception.index, index)
        with self.assertRaises(DoesNotFit) as caught:
            chained([], [("keep", 1)])
        self.assertEqual(caught.exception.index, 0)

    def test_letter_by_letter(self):
        chance = rng(952)
        for _ in range(500):
            left = random_text(chance, 10)
            one, between = random_delta(chance, left)
            other, right = random_delta(chance, between)
            found = chained(one, other)
            self.assertEqual(found, slow_chained(one, other))
            self.assertTrue(is_delta(found))
            self.assertEqual(applied(found, left), right)

    def test_deltas_that_only_keep(self):
        chance = rng(953)
        for _ in range(100):
            left = random_text(chance, 10)
            delta, right = random_delta(chance, left)
            ahead = [("keep", len(left))] if left else []
            behind = [("keep", len(right))] if right else []
            self.assertEqual(chained(delta, behind), delta)
            self.assertEqual(chained(ahead, delta), delta)

    def test_with_its_own_back(self):
        chance = rng(954)
        for _ in range(100):
            left = random_text(chance, 10)
            delta, right = random_delta(chance, left)
            there = chained(delta, back(delta, left))
            self.assertEqual(applied(there, left), left)
            # What was dropped is put again.
            self.assertEqual(put_by(there), put_by(back(delta, left)))
            self.assertEqual(script_of(there).count("k"), script_of(delta).count("k"))

    def test_in_threes(self):
        chance = rng(955)
        for _ in range(300):
            left = random_text(chance, 8)
            one, a = random_delta(chance, left)
            other, b = random_delta(chance, a)
            third, right = random_delta(chance, b)
            whole = chained(chained(one, other), third)
            self.assertEqual(applied(whole, left), right)
            self.assertEqual(chained(one, chained(other, third)), whole)


if __name__ == "__main__":
    unittest.main()
