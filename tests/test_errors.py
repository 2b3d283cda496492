import unittest

from saidearly import errors
from saidearly.errors import EarlyError

FIELDS = {
    "AlreadyEnded": ["length"], "BadArrow": ["arrow"], "BadLine": ["line"], "BadRule": ["rule"],
    "BeyondEnd": ["place"], "Broken": [], "Contradiction": ["place"], "DoesNotFit": ["index"], "Ended": ["side"],
    "EndsShort": ["place"], "Finished": [], "KeepNotShown": ["rule"], "NeedsNoPromise": [], "NoDeed": [],
    "NoElder": ["index"], "NoRule": ["rule"], "NoSaying": ["thing"], "NoStand": ["stand"],
    "NoSuchLetter": ["side", "number"], "NoTick": ["thing"], "NoWait": ["wait"], "NotARing": [],
    "NotAScript": ["index"], "NotAWalk": ["at"], "NotClaimed": ["extra"], "NotComparable": [], "NotHeights": [],
    "NotLet": ["going_on"], "NotOnRim": ["point"], "NotSent": ["at"], "NotWhole": [], "Nothing": [],
    "Stopped": ["index"], "TooMany": ["count"], "UnderLag": [], "UnderTotal": [], "Unsettled": [], "Wrong": ["place"],
}


class Errors(unittest.TestCase):
    """[10] and what [4] says of errors."""

    def test_the_base(self):
        self.assertEqual(EarlyError.__bases__, (ValueError,))

    def test_all_are_there_and_no_other(self):
        found = {name for name, thing in vars(errors).items() if isinstance(thing, type)}
        self.assertEqual(found, set(FIELDS) | {"EarlyError"})

    def test_each_stands_straight_below_the_base(self):
        for name in FIELDS:
            self.assertEqual(getattr(errors, name).__bases__, (EarlyError,), name)

    def test_an_error_is_of_no_other_class(self):
        for name, fields in FIELDS.items():
            made = getattr(errors, name)(*[0] * len(fields))
            classes = [other for other in FIELDS if isinstance(made, getattr(errors, other))]
            self.assertEqual(classes, [name])
            self.assertIsInstance(made, ValueError)
            self.assertIsInstance(made, EarlyError)

    def test_fields_keep_the_very_objects(self):
        for name, fields in FIELDS.items():
            for things in ([[1], {"a": []}], [None, True], [object(), ((),)], ["", errors.Wrong(3)]):
                made = getattr(errors, name)(*things[:len(fields)])
                self.assertEqual(list(vars(made)), fields, name)
                for field, thing in zip(fields, things):
                    self.assertIs(getattr(made, field), thing)

    def test_each_can_be_raised_and_caught_by_both_bases(self):
        for name, fields in FIELDS.items():
            for base in (getattr(errors, name), EarlyError, ValueError):
                with self.assertRaises(base):
                    raise getattr(errors, name)(*[None] * len(fields))

    def test_as_many_arguments_as_fields(self):
        for name, fields in FIELDS.items():
            with self.assertRaises(TypeError):
                getattr(errors, name)(*[0] * (len(fields) + 1))


if __name__ == "__main__":
    unittest.main()
