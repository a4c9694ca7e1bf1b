import unittest

from helpers import REFUSALS
from joinwood.errors import JoinError


class Refusals(unittest.TestCase):
    def test_each_is_a_join_error_and_a_value_error(self):
        self.assertEqual(JoinError.__bases__, (ValueError,))
        for refusal in REFUSALS:
            self.assertEqual(refusal.__bases__, (JoinError,))

    def test_none_stands_under_another(self):
        for one in REFUSALS:
            for other in REFUSALS:
                self.assertEqual(issubclass(one, other), one is other, (one, other))
            self.assertFalse(issubclass(JoinError, one))

    def test_each_can_be_raised_with_words(self):
        for refusal in REFUSALS + [JoinError]:
            with self.assertRaises(refusal):
                raise refusal("words")


if __name__ == "__main__":
    unittest.main()
