"""Point 4, and the refusals as the interface names them."""

import unittest

from weirmark import errors

WITHOUT = ("Late", "Fixed", "BackMark", "NotLoose", "Ended", "Begun", "NoKeep", "NoLine")
WITH = {
    "NoText": "at", "NoName": "name", "NoRoad": "name", "Taken": "name", "Gap": "wanted", "NoQuestion": "at",
    "Untaken": "wanted",
}


class ErrorsTest(unittest.TestCase):
    def refusals(self):
        return [getattr(errors, name) for name in list(WITHOUT) + list(WITH)]

    def test_all_stand_under_weir_error_and_that_under_value_error(self):
        self.assertTrue(issubclass(errors.WeirError, ValueError))
        for refusal in self.refusals():
            self.assertTrue(issubclass(refusal, errors.WeirError), refusal)

    def test_none_stands_beneath_another_one(self):
        for one in self.refusals():
            for other in self.refusals():
                self.assertEqual(issubclass(one, other), one is other)

    def test_those_without_a_field_are_made_of_nothing(self):
        for name in WITHOUT:
            with self.assertRaises(getattr(errors, name)):
                raise getattr(errors, name)()

    def test_the_field_is_the_very_thing(self):
        for name, field in WITH.items():
            for thing in (0, -3, "", "ab", None, True, [1], {}, (1, "a"), 10 ** 5000):
                refusal = getattr(errors, name)(thing)
                self.assertIs(getattr(refusal, field), thing)

    def test_a_raised_one_has_its_field(self):
        for name, field in WITH.items():
            with self.assertRaises(errors.WeirError) as caught:
                raise getattr(errors, name)(7)
            self.assertEqual(getattr(caught.exception, field), 7)

    def test_two_share_nothing(self):
        one = errors.NoText(1)
        other = errors.NoText(2)
        self.assertEqual((one.at, other.at), (1, 2))


if __name__ == "__main__":
    unittest.main()
