import copy
import unittest
from fractions import Fraction

from ropeclock.plans import outs
from ropeclock.reach import first_plan, measured, next_moment
from walking import all_plans, as_told, burn

SIXTY_FOURTHS = [Fraction(top, 64) for top in range(0, 6 * 64)]
FAR = [(100, 1), (10 ** 400, 1), (1, 2 ** 400), (2 ** 400 - 1, 2 ** 400)]


def place(plan):
    """What the order of plans of as many ropes goes by."""
    return [(one, other is not None, 0 if other is None else other) for one, other in plan]


def first_by_trying(most):
    """The first plan for each moment, by trying every plan in order."""
    found = {}
    for length in range(1, most + 1):
        for plan in sorted(all_plans(length), key=place):
            moments, late = burn(plan)
            if not late:
                found.setdefault(moments[-1], plan)
    return found


TRIED = {most: first_by_trying(most) for most in range(1, 5)}


class TestMeasured(unittest.TestCase):
    def test_argument_names(self):
        self.assertEqual(measured(most=1), [(1, 2), (1, 1)])

    def test_one_rope(self):
        self.assertEqual(measured(1), [(1, 2), (1, 1)])

    def test_two_ropes(self):
        self.assertEqual(measured(2), [(1, 2), (3, 4), (1, 1), (3, 2), (2, 1)])

    def test_three_ropes(self):
        self.assertEqual(measured(3), [
            (1, 2), (3, 4), (7, 8), (1, 1), (9, 8), (5, 4), (3, 2), (7, 4), (2, 1), (5, 2), (3, 1),
        ])

    def test_every_plan_tried(self):
        for most in TRIED:
            self.assertEqual(measured(most), [as_told(moment) for moment in sorted(TRIED[most])])

    def test_told_kinds(self):
        for most in range(1, 5):
            told = measured(most)
            self.assertIs(type(told), list)
            for moment in told:
                self.assertIs(type(moment), tuple)
                self.assertEqual([type(part) for part in moment], [int, int])

    def test_below_the_first_hour(self):
        for most in range(0, 7):
            below = [moment for moment in measured(most) if moment[0] < moment[1]]
            self.assertEqual(below, [(2 ** n - 1, 2 ** n) for n in range(1, most + 1)])

    def test_last_moment(self):
        for most in range(1, 7):
            self.assertEqual(measured(most)[-1], (most, 1))

    def test_each_once_and_rising(self):
        for most in range(1, 7):
            moments = [Fraction(*moment) for moment in measured(most)]
            self.assertTrue(all(one < other for one, other in zip(moments, moments[1:])))

    def test_fewer_ropes_are_among_more(self):
        for most in range(1, 6):
            self.assertLess(set(measured(most)), set(measured(most + 1)))


class TestFirstPlan(unittest.TestCase):
    def test_argument_names(self):
        self.assertEqual(first_plan(moment=(1, 2), most=1), [(-1, -1)])

    def test_one_rope(self):
        self.assertEqual(first_plan((1, 1), 1), [(-1, None)])
        self.assertEqual(first_plan((1, 2), 1), [(-1, -1)])
        for moment in ((0, 1), (3, 4), (3, 2), (2, 1)):
            self.assertIsNone(first_plan(moment, 1))

    def test_two_ropes(self):
        self.assertEqual(first_plan((3, 4), 2), [(-1, -1), (-1, 0)])
        # [(-1, -1), (0, None)] measures it too, but None is ahead of -1.
        self.assertEqual(first_plan((3, 2), 2), [(-1, None), (0, 0)])
        self.assertEqual(first_plan((2, 1), 2), [(-1, None), (0, None)])

    def test_fewer_ropes_first(self):
        # [(-1, None), (-1, None)] measures an hour and has the lesser ropes, but more of them.
        for most in range(1, 6):
            self.assertEqual(first_plan((1, 1), most), [(-1, None)])
            self.assertEqual(first_plan((1, 2), most), [(-1, -1)])

    def test_four_ropes(self):
        self.assertEqual(first_plan((15, 16), 4), [(-1, -1), (-1, 0), (-1, 1), (-1, 2)])
        self.assertEqual(first_plan((4, 1), 4), [(-1, None), (0, None), (1, None), (2, None)])
        self.assertIsNone(first_plan((15, 16), 3))
        self.assertIsNone(first_plan((4, 1), 3))

    def test_told_kinds(self):
        for most in range(1, 5):
            for moment in measured(most):
                told = first_plan(moment, most)
                self.assertIs(type(told), list)
                self.assertEqual({type(rope) for rope in told}, {tuple})

    def test_every_plan_tried(self):
        for most in TRIED:
            for moment in SIXTY_FOURTHS:
                self.assertEqual(first_plan(as_told(moment), most), TRIED[most].get(moment), (moment, most))

    def test_no_plan(self):
        for most in range(1, 5):
            for moment in [(0, 1), (1, 4), (5, 8), (31, 32), (most + 1, 1), (2 * most + 1, 2)] + FAR:
                self.assertIsNone(first_plan(moment, most), (moment, most))

    def test_it_measures_the_moment(self):
        for most in range(1, 7):
            for moment in measured(most):
                self.assertEqual(outs(first_plan(moment, most))[-1], moment)


class TestNextMoment(unittest.TestCase):
    def test_argument_names(self):
        self.assertEqual(next_moment(moment=(1, 2), most=1), (1, 1))

    def test_one_rope(self):
        self.assertEqual(next_moment((0, 1), 1), (1, 2))
        self.assertEqual(next_moment((1, 4), 1), (1, 2))
        self.assertEqual(next_moment((1, 2), 1), (1, 1))
        self.assertEqual(next_moment((1023, 1024), 1), (1, 1))
        self.assertIsNone(next_moment((1, 1), 1))
        self.assertIsNone(next_moment((5, 4), 1))

    def test_just_round_each_moment(self):
        tiny = Fraction(1, 2 ** 90)
        for most in range(1, 5):
            told = measured(most)
            for moment, later in zip(told, told[1:] + [None]):
                self.assertEqual(next_moment(as_told(Fraction(*moment) - tiny), most), moment)
                self.assertEqual(next_moment(moment, most), later)
                self.assertEqual(next_moment(as_told(Fraction(*moment) + tiny), most), later)

    def test_every_plan_tried(self):
        for most in TRIED:
            for moment in SIXTY_FOURTHS:
                later = [other for other in TRIED[most] if other > moment]
                wanted = as_told(min(later)) if later else None
                self.assertEqual(next_moment(as_told(moment), most), wanted, (moment, most))

    def test_at_or_behind_the_last(self):
        for most in range(1, 5):
            for moment in ((most, 1), (2 * most + 1, 2), (most + 1, 1), (10 ** 400, 1)):
                self.assertIsNone(next_moment(moment, most))

    def test_told_kinds(self):
        told = next_moment((0, 1), 4)
        self.assertIs(type(told), tuple)
        self.assertEqual([type(part) for part in told], [int, int])

    def test_from_moment_to_moment(self):
        for most in range(1, 5):
            walked = []
            moment = next_moment((0, 1), most)
            while moment is not None:
                walked.append(moment)
                moment = next_moment(moment, most)
            self.assertEqual(walked, measured(most))


class TestSomewhatBeyond(unittest.TestCase):
    def test_no_rope(self):
        self.assertEqual(measured(0), [])
        self.assertIsNone(first_plan((1, 2), 0))
        self.assertIsNone(next_moment((0, 1), 0))

    def test_five_ropes(self):
        tried = first_by_trying(5)
        self.assertEqual(measured(5), [as_told(moment) for moment in sorted(tried)])
        for moment in tried:
            self.assertEqual(first_plan(as_told(moment), 5), tried[moment])

    def test_moment_below_nought(self):
        self.assertEqual(next_moment((-1, 2), 4), (1, 2))
        self.assertIsNone(first_plan((-1, 2), 4))


class TestNothingIsShared(unittest.TestCase):
    def test_told_moments_may_be_changed(self):
        for most in range(1, 5):
            wanted = copy.deepcopy(measured(most))
            told = measured(most)
            told.reverse()
            told.append((99, 1))
            told[0] = (0, 1)
            self.assertEqual(measured(most), wanted)
            self.assertEqual(next_moment((0, 1), most), (1, 2))
            self.assertIsNone(next_moment((most, 1), most))
            self.assertIsNone(first_plan((99, 1), most))

    def test_told_plan_may_be_changed(self):
        for most in range(1, 5):
            for moment in measured(most):
                wanted = copy.deepcopy(first_plan(moment, most))
                told = first_plan(moment, most)
                told[0] = (7, 7)
                told.append((8, None))
                self.assertEqual(first_plan(moment, most), wanted)
                self.assertIn(moment, measured(most))

    def test_no_two_lists_are_one(self):
        lists = []
        for most in range(1, 5):
            for again in range(2):
                lists.append(measured(most))
                lists.extend(first_plan(moment, most) for moment in measured(most))
        self.assertEqual(len({id(each) for each in lists}), len(lists))

    def test_fewer_ropes_asked_behind_more(self):
        wanted = measured(1)
        measured(4)
        first_plan((15, 16), 4)
        self.assertEqual(measured(1), wanted)
        self.assertIsNone(first_plan((15, 16), 3))
        self.assertIsNone(next_moment((1, 1), 1))


if __name__ == "__main__":
    unittest.main()
