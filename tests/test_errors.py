import unittest

from wordswap import errors

NAMES = ["NoWeb", "NoPlan", "NotJoined", "NoLeader", "NoDeed", "Laid", "NotLaid", "Late", "Unknown", "NoText"]
CLASSES = [getattr(errors, name) for name in NAMES]
VALUES = [None, 0, 3, [0, 1], (0, 1), ("say", (0, 1), (1,)), "word"]


class Errors(unittest.TestCase):
    def test_the_value_handed_in_is_at(self):
        for refusal in CLASSES + [errors.SwapError]:
            for value in VALUES:
                self.assertEqual(refusal(value).at, value)

    def test_at_is_there_when_it_is_taken(self):
        for refusal in CLASSES:
            with self.assertRaises(errors.SwapError) as taken:
                raise refusal(7)
            self.assertEqual(taken.exception.at, 7)
            self.assertIs(type(taken.exception), refusal)

    def test_made_of_just_one_value(self):
        for refusal in CLASSES + [errors.SwapError]:
            with self.assertRaises(TypeError):
                refusal()
            with self.assertRaises(TypeError):
                refusal(1, 2)

    def test_each_stands_under_swap_error_and_value_error(self):
        self.assertTrue(issubclass(errors.SwapError, ValueError))
        for refusal in CLASSES:
            self.assertTrue(issubclass(refusal, errors.SwapError))
            self.assertTrue(issubclass(refusal, ValueError))

    def test_none_stands_under_another_one(self):
        for refusal in CLASSES:
            above = [other for other in CLASSES if issubclass(refusal, other)]
            self.assertEqual(above, [refusal])
            self.assertFalse(issubclass(errors.SwapError, refusal))


if __name__ == "__main__":
    unittest.main()
