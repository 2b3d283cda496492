import unittest

from saidearly.errors import TooMany
from saidearly.findings import Findings


class Counting(unittest.TestCase):
    """The bounds of [65] and [71]."""

    def test_stands(self):
        findings = Findings("first")
        self.assertEqual(findings.number_of("first"), 0)
        self.assertEqual([findings.number_of(number) for number in range(599)], list(range(1, 600)))
        self.assertEqual(findings.many_stands(), 600)
        # What is found already may be found again.
        self.assertEqual(findings.number_of(598), 599)
        with self.assertRaises(TooMany) as caught:
            findings.number_of("one more")
        self.assertEqual(caught.exception.count, 601)
        self.assertEqual(findings.stand_list(), ["first"] + list(range(599)))
        self.assertEqual(findings.stand_at(7), 6)

    def test_other_bounds(self):
        findings = Findings("first", 2)
        self.assertEqual((findings.is_found("first"), findings.is_found("next")), (True, False))
        self.assertEqual(findings.number_of("next"), 1)
        self.assertTrue(findings.is_found("next"))
        with self.assertRaises(TooMany) as caught:
            findings.number_of("one more")
        self.assertEqual(caught.exception.count, 3)
        self.assertFalse(findings.is_found("one more"))

    def test_arrows(self):
        findings = Findings(0)
        for number in range(8000):
            findings.add_arrow((number,))
        with self.assertRaises(TooMany) as caught:
            findings.add_arrow((0,))
        self.assertEqual(caught.exception.count, 8001)
        self.assertEqual(findings.arrow_list(), [(number,) for number in range(8000)])


if __name__ == "__main__":
    unittest.main()
