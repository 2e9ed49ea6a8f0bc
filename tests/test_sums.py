"""Points 11 to 14: what every sum has."""

import unittest

from weirmark.sums import Sum

METHODS = {
    "word": (), "of": ([1],), "behind": (None, 1), "shown": (None, [1]), "weighs": (None, 1), "trimmed": (None, 1),
    "probe": (None, 1),
}


class SumTest(unittest.TestCase):
    def test_each_method_is_there_and_each_sum_has_its_own(self):
        for name, arguments in METHODS.items():
            with self.assertRaises(NotImplementedError):
                getattr(Sum(), name)(*arguments)


if __name__ == "__main__":
    unittest.main()
