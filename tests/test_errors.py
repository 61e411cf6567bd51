import unittest

from cutline.errors import BadAsk, BadDeed, BadText, NoDeed, SpanError

REFUSALS = (BadDeed, BadAsk, BadText, NoDeed)


class Errors(unittest.TestCase):
    def test_each_stands_straight_under_span_error(self):
        for refusal in REFUSALS:
            self.assertEqual(refusal.__bases__, (SpanError,))

    def test_span_error_stands_straight_under_value_error(self):
        self.assertEqual(SpanError.__bases__, (ValueError,))

    def test_none_stands_under_another(self):
        for one in REFUSALS:
            for other in REFUSALS:
                self.assertEqual(issubclass(one, other), one is other)

    def test_each_can_be_raised_and_taken_as_any_refusal(self):
        for refusal in REFUSALS:
            with self.assertRaises(SpanError):
                raise refusal("words")
            with self.assertRaises(ValueError):
                raise refusal("words")
