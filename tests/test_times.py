import unittest
from fractions import Fraction

from ropeclock.times import between, earlier, hour_behind, mean_and_half
from walking import as_told

SMALL = [as_told(Fraction(top, 16)) for top in range(0, 49)]
DEEP = 2 ** 300000


def fraction(moment):
    return Fraction(moment[0], moment[1])


class TestTimes(unittest.TestCase):
    def check(self, told, wanted):
        self.assertIs(type(told), tuple)
        self.assertEqual([type(part) for part in told], [int, int])
        # Compared without assertEqual: it would write out very large numbers.
        self.assertTrue(told == wanted, "another moment is asked")

    def test_argument_names(self):
        self.check(mean_and_half(one=(0, 1), other=(1, 2)), (3, 4))
        self.check(hour_behind(one=(1, 2)), (3, 2))
        self.check(between(one=(0, 1), other=(1, 2)), (1, 2))
        self.assertIs(earlier(one=(0, 1), other=(1, 2)), True)

    def test_mean_and_half(self):
        self.check(mean_and_half((0, 1), (0, 1)), (1, 2))
        self.check(mean_and_half((0, 1), (1, 2)), (3, 4))
        self.check(mean_and_half((1, 2), (0, 1)), (3, 4))
        self.check(mean_and_half((1, 2), (1, 2)), (1, 1))
        self.check(mean_and_half((3, 4), (1, 4)), (1, 1))
        self.check(mean_and_half((3, 1), (4, 1)), (4, 1))
        self.check(mean_and_half((1, 1), (1, 2)), (5, 4))
        self.check(mean_and_half((0, 1), (9, 1)), (5, 1))

    def test_hour_behind(self):
        self.check(hour_behind((0, 1)), (1, 1))
        self.check(hour_behind((7, 1)), (8, 1))
        self.check(hour_behind((1, 2)), (3, 2))
        self.check(hour_behind((7, 8)), (15, 8))

    def test_earlier(self):
        self.assertIs(earlier((0, 1), (1, 2)), True)
        self.assertIs(earlier((1, 2), (0, 1)), False)
        self.assertIs(earlier((7, 8), (1, 1)), True)
        self.assertIs(earlier((1, 1), (7, 8)), False)
        self.assertIs(earlier((3, 2), (7, 4)), True)
        self.assertIs(earlier((3, 2), (5, 4)), False)

    def test_equal_moments(self):
        for moment in SMALL:
            self.assertIs(earlier(moment, moment), False)
            self.check(between(moment, moment), (0, 1))

    def test_between(self):
        self.check(between((0, 1), (0, 1)), (0, 1))
        self.check(between((0, 1), (1, 2)), (1, 2))
        self.check(between((1, 2), (0, 1)), (1, 2))
        self.check(between((3, 4), (1, 4)), (1, 2))
        self.check(between((5, 4), (1, 4)), (1, 1))
        self.check(between((9, 1), (4, 1)), (5, 1))
        self.check(between((4, 1), (9, 1)), (5, 1))

    def test_all_small_pairs(self):
        for one in SMALL:
            self.check(hour_behind(one), as_told(fraction(one) + 1))
            for other in SMALL:
                self.check(mean_and_half(one, other), as_told((fraction(one) + fraction(other) + 1) / 2))
                self.check(between(one, other), as_told(abs(fraction(one) - fraction(other))))
                self.assertIs(earlier(one, other), fraction(one) < fraction(other))

    def test_very_large_tops(self):
        large = 10 ** 400
        self.check(hour_behind((large, 1)), (large + 1, 1))
        self.check(mean_and_half((large, 1), (large, 1)), (2 * large + 1, 2))
        self.check(mean_and_half((large, 1), (large + 1, 1)), (large + 1, 1))
        self.check(between((large, 1), (large + 1, 1)), (1, 1))
        self.assertIs(earlier((large, 1), (large + 1, 1)), True)
        self.assertIs(earlier((large + 1, 1), (large, 1)), False)

    def test_neighbours_that_a_float_would_make_one(self):
        bottom = 2 ** 80
        self.assertIs(earlier((bottom - 1, bottom), (1, 1)), True)
        self.assertIs(earlier((1, 1), (bottom + 1, bottom)), True)
        self.check(between((bottom - 1, bottom), (1, 1)), (1, bottom))
        self.check(mean_and_half((0, 1), (bottom - 1, bottom)), (2 * bottom - 1, 2 * bottom))

    def test_very_large_bottoms(self):
        self.check(hour_behind((1, DEEP)), (DEEP + 1, DEEP))
        self.check(mean_and_half((1, DEEP), (DEEP - 1, DEEP)), (1, 1))
        self.check(mean_and_half((0, 1), (1, DEEP)), (DEEP + 1, 2 * DEEP))
        self.check(mean_and_half((1, DEEP), (0, 1)), (DEEP + 1, 2 * DEEP))
        self.check(between((1, DEEP), (DEEP + 1, DEEP)), (1, 1))
        self.check(between((DEEP + 1, DEEP), (1, 1)), (1, DEEP))
        self.check(between((DEEP, 1), (0, 1)), (DEEP, 1))
        self.assertIs(earlier((1, DEEP), (1, DEEP // 2)), True)
        self.assertIs(earlier((1, DEEP // 2), (1, DEEP)), False)
        self.assertIs(earlier((1, DEEP), (1, DEEP)), False)


if __name__ == "__main__":
    unittest.main()
