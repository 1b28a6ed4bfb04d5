"""The refusals, as the interface tells them."""

import unittest

from mixedscales import errors
from mixedscales.errors import NoAsk, NoDigit, NoEnd, NoOrder, NoPlace, ScaleError, TooGreat, TooSmall

MADE_OF_TEXT = (NoPlace, TooGreat, TooSmall, NoOrder, NoEnd, NoAsk)
REFUSALS = MADE_OF_TEXT + (NoDigit,)


class ErrorsTest(unittest.TestCase):
    def test_scale_error_stands_under_value_error(self):
        self.assertTrue(issubclass(ScaleError, ValueError))
        self.assertEqual(str(ScaleError("words")), "words")

    def test_each_refusal_stands_under_scale_error(self):
        for refusal in REFUSALS:
            with self.subTest(refusal=refusal.__name__):
                self.assertTrue(issubclass(refusal, ScaleError))
                self.assertIsNot(refusal, ScaleError)
                self.assertIs(getattr(errors, refusal.__name__), refusal)

    def test_no_refusal_stands_under_another(self):
        for one in REFUSALS:
            for other in REFUSALS:
                if one is not other:
                    self.assertFalse(issubclass(one, other), (one, other))

    def test_made_of_a_text(self):
        for refusal in MADE_OF_TEXT:
            with self.subTest(refusal=refusal.__name__):
                with self.assertRaises(refusal) as caught:
                    raise refusal("some words")
                self.assertEqual(str(caught.exception), "some words")

    def test_no_digit_keeps_its_place(self):
        for place in (0, 1, 7, 300):
            with self.assertRaises(ScaleError) as caught:
                raise NoDigit(place)
            self.assertEqual(caught.exception.place, place)

    def test_no_digits_keep_their_own_places(self):
        one = NoDigit(3)
        other = NoDigit(5)
        self.assertEqual((one.place, other.place), (3, 5))


if __name__ == "__main__":
    unittest.main()
