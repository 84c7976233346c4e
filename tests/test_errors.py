"""The refusals, as the interface names them."""

import unittest

from ringcede import errors

NAMES = (
    "BadHouses", "BadLines", "BadCover", "BadCrowns", "BadLosses", "BadAccount", "Unbacked", "Short",
    "Disagrees", "NoHouse", "NoCover", "NoHappening", "NoLoss", "BadDay", "BadTerms", "Endless", "Same",
    "Full", "BadDeed", "Nothing", "BadText",
)


class ErrorsTest(unittest.TestCase):

    def test_ring_error_stands_under_value_error(self):
        self.assertEqual(errors.RingError.__bases__, (ValueError,))

    def test_each_refusal_stands_straight_under_ring_error(self):
        for name in NAMES:
            with self.subTest(name=name):
                self.assertEqual(getattr(errors, name).__bases__, (errors.RingError,))

    def test_each_name_is_a_class_of_its_own(self):
        self.assertEqual(len({getattr(errors, name) for name in NAMES}), len(NAMES))

    def test_each_refusal_bears_words(self):
        for name in NAMES[:-1]:
            with self.subTest(name=name):
                with self.assertRaises(errors.RingError) as caught:
                    raise getattr(errors, name)("words")
                self.assertEqual(str(caught.exception), "words")

    def test_bad_text_has_its_row(self):
        for row in (0, 1, 17):
            with self.assertRaises(errors.RingError) as caught:
                raise errors.BadText(row)
            self.assertEqual(caught.exception.row, row)


if __name__ == "__main__":
    unittest.main()
