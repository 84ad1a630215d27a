import unittest

from pilewheel.errors import NoMarks, NoNote, NoNumber, NoPiles, NotRound, PileError

REFUSALS = [NoPiles, NotRound, NoMarks, NoNumber, NoNote]


class ErrorsTest(unittest.TestCase):
    def test_any_refusal_is_a_value_error(self):
        self.assertEqual(PileError.__bases__, (ValueError,))

    def test_each_class_stands_straight_under_pile_error(self):
        for refusal in REFUSALS:
            self.assertEqual(refusal.__bases__, (PileError,), refusal)

    def test_no_class_is_under_another(self):
        for one in REFUSALS:
            for other in REFUSALS:
                self.assertEqual(issubclass(one, other), one is other, (one, other))

    def test_each_class_has_its_name(self):
        names = [refusal.__name__ for refusal in REFUSALS]
        self.assertEqual(names, ["NoPiles", "NotRound", "NoMarks", "NoNumber", "NoNote"])


if __name__ == "__main__":
    unittest.main()
