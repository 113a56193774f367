import copy
import unittest
from fractions import Fraction

from ropeclock.burning import left
from ropeclock.errors import Late
from ropeclock.plans import book, outs
from walking import all_plans, as_told, burn, some_good_plans, some_plans, ticked

LATE = [(-1, None), (-1, 0)]
TINY = Fraction(1, 2 ** 100)


class TestLeft(unittest.TestCase):
    def check(self, plan, moment, wanted):
        self.assertEqual(left(plan, moment), wanted, (plan, moment))

    def refused(self, plan, rope):
        for moment in ((0, 1), (1, 2), (1, 1), (9, 1)):
            with self.assertRaises(Late) as taken:
                left(plan, moment)
            self.assertEqual(taken.exception.rope, rope)

    def test_argument_names(self):
        self.assertEqual(left(plan=[(-1, None)], moment=(1, 4)), [(3, 4)])

    def test_told_kinds(self):
        told = left([(-1, -1), (-1, 0), (0, None)], (5, 8))
        self.assertIs(type(told), list)
        for stretch in told:
            self.assertIs(type(stretch), tuple)
            self.assertEqual([type(part) for part in stretch], [int, int])

    def test_one_end_lit(self):
        self.check([(-1, None)], (0, 1), [(1, 1)])
        self.check([(-1, None)], (1, 4), [(3, 4)])
        self.check([(-1, None)], (1, 2), [(1, 2)])
        self.check([(-1, None)], (1023, 1024), [(1, 1024)])
        self.check([(-1, None)], (1, 1), [(0, 1)])
        self.check([(-1, None)], (1025, 1024), [(0, 1)])
        self.check([(-1, None)], (9, 1), [(0, 1)])

    def test_both_ends_lit(self):
        self.check([(-1, -1)], (0, 1), [(1, 1)])
        self.check([(-1, -1)], (1, 4), [(1, 2)])
        self.check([(-1, -1)], (3, 8), [(1, 4)])
        self.check([(-1, -1)], (511, 1024), [(1, 512)])
        self.check([(-1, -1)], (1, 2), [(0, 1)])
        self.check([(-1, -1)], (513, 1024), [(0, 1)])
        self.check([(-1, -1)], (1, 1), [(0, 1)])

    def test_second_end_lit_later(self):
        plan = [(-1, -1), (-1, 0)]
        self.check(plan, (0, 1), [(1, 1), (1, 1)])
        self.check(plan, (1, 4), [(1, 2), (3, 4)])
        self.check(plan, (7, 16), [(1, 8), (9, 16)])
        self.check(plan, (1, 2), [(0, 1), (1, 2)])
        self.check(plan, (9, 16), [(0, 1), (3, 8)])
        self.check(plan, (11, 16), [(0, 1), (1, 8)])
        self.check(plan, (3, 4), [(0, 1), (0, 1)])
        self.check(plan, (13, 16), [(0, 1), (0, 1)])

    def test_ahead_of_the_lightings(self):
        plan = [(-1, -1), (0, None), (1, 1)]
        self.check(plan, (0, 1), [(1, 1), (1, 1), (1, 1)])
        self.check(plan, (1, 4), [(1, 2), (1, 1), (1, 1)])
        self.check(plan, (1, 2), [(0, 1), (1, 1), (1, 1)])
        self.check(plan, (3, 4), [(0, 1), (3, 4), (1, 1)])
        self.check(plan, (3, 2), [(0, 1), (0, 1), (1, 1)])
        self.check(plan, (7, 4), [(0, 1), (0, 1), (1, 2)])
        self.check(plan, (2, 1), [(0, 1), (0, 1), (0, 1)])

    def test_other_end_lit_first(self):
        plan = [(-1, None), (-1, -1), (0, 1)]
        self.check(plan, (1, 4), [(3, 4), (1, 2), (1, 1)])
        self.check(plan, (1, 2), [(1, 2), (0, 1), (1, 1)])
        self.check(plan, (3, 4), [(1, 4), (0, 1), (3, 4)])
        self.check(plan, (1, 1), [(0, 1), (0, 1), (1, 2)])
        self.check(plan, (9, 8), [(0, 1), (0, 1), (1, 4)])
        self.check(plan, (5, 4), [(0, 1), (0, 1), (0, 1)])

    def test_ropes_in_the_order_of_the_plan(self):
        self.check([(-1, None), (-1, -1)], (1, 4), [(3, 4), (1, 2)])
        self.check([(-1, -1), (-1, None)], (1, 4), [(1, 2), (3, 4)])

    def test_late(self):
        self.refused(LATE, 1)
        self.refused([(-1, -1), (0, None), (0, 1)], 2)
        self.refused([(-1, None), (0, 0), (-1, 1), (-1, 0)], 2)
        self.refused([(-1, None)] * 11 + [(-1, 0)], 11)

    def test_late_is_a_late_and_no_no_plan(self):
        with self.assertRaises(ValueError) as taken:
            left(LATE, (0, 1))
        self.assertIs(type(taken.exception), Late)

    def test_somewhat_beyond_the_bounds(self):
        self.check([], (1, 2), [])
        self.check([(-1, None)] * 20, (1, 4), [(3, 4)] * 20)
        self.check([(-1, None)], (-1, 2), [(1, 1)])

    def test_very_large_numbers(self):
        deep = 2 ** 5000
        self.check([(-1, None), (-1, -1)], (1, deep), [(deep - 1, deep), (deep // 2 - 1, deep // 2)])
        self.check([(-1, None), (-1, -1)], (deep, 1), [(0, 1), (0, 1)])


class TestWalked(unittest.TestCase):
    def check_ticks(self, plan, ticks):
        if burn(plan)[1]:
            with self.assertRaises(Late) as taken:
                left(plan, (1, 2))
            self.assertEqual(taken.exception.rope, burn(plan)[1][0])
            return
        for tick, row in enumerate(ticked(plan, ticks)):
            told = left(plan, as_told(Fraction(tick, ticks)))
            self.assertEqual(told, [as_told(Fraction(rest, ticks)) for rest in row], (plan, tick))

    def test_every_plan_of_up_to_three_ropes(self):
        for length in range(1, 4):
            for plan in all_plans(length):
                self.check_ticks(plan, 16)

    def test_every_plan_of_four_ropes(self):
        for plan in all_plans(4):
            self.check_ticks(plan, 16)

    def test_some_plans_of_seven_ropes(self):
        for plan in some_good_plans(7, 10, 7):
            self.check_ticks(plan, 256)


class TestWithTheBook(unittest.TestCase):
    def test_round_each_going_out(self):
        for plan in all_plans(2) + some_good_plans(12, 20, 8):
            if burn(plan)[1]:
                continue
            for rope, moment in enumerate(burn(plan)[0]):
                fires = 1 if plan[rope][1] is None else 2
                self.assertEqual(left(plan, as_told(moment - TINY))[rope], as_told(fires * TINY))
                self.assertEqual(left(plan, as_told(moment))[rope], (0, 1))
                self.assertEqual(left(plan, as_told(moment + TINY))[rope], (0, 1))

    def test_round_each_first_lighting(self):
        for plan in some_good_plans(12, 20, 9):
            moments = [as_told(moment) for moment in burn(plan)[0]] + [(0, 1)]
            for rope, ends in enumerate(plan):
                lit = [Fraction(*moments[end]) for end in ends if end is not None]
                first = min(lit)
                self.assertEqual(left(plan, as_told(first))[rope], (1, 1))
                self.assertEqual(left(plan, as_told(first + TINY))[rope], as_told(1 - lit.count(first) * TINY))
                if first > 0:
                    self.assertEqual(left(plan, as_told(first - TINY))[rope], (1, 1))

    def test_what_goes_out_has_nothing_left_and_what_is_lit_has_something(self):
        for plan in some_good_plans(9, 20, 10):
            gone = []
            for moment, out, lit in book(plan):
                gone.extend(out)
                told = left(plan, moment)
                self.assertEqual([rope for rope in range(9) if told[rope] == (0, 1)], sorted(gone))
                self.assertTrue(all(told[rope] != (0, 1) for rope, side in lit))


class TestNothingIsShared(unittest.TestCase):
    def test_plan_stays_as_it_was(self):
        for plan in some_plans(12, 30, 11) + some_good_plans(12, 10, 12):
            before = copy.deepcopy(plan)
            try:
                left(plan, (3, 4))
            except Late:
                pass
            self.assertEqual(plan, before)

    def test_told_list_may_be_changed(self):
        plan = [(-1, -1), (-1, 0)]
        told = left(plan, (1, 4))
        told[0] = (5, 1)
        told.append((7, 1))
        self.assertEqual(left(plan, (1, 4)), [(1, 2), (3, 4)])
        self.assertEqual(outs(plan), [(1, 2), (3, 4)])

    def test_no_two_lists_are_one(self):
        plan = [(-1, -1), (-1, 0)]
        lists = [plan, left(plan, (1, 4)), left(plan, (1, 4)), left(plan, (9, 1)), left(plan, (9, 1))]
        self.assertEqual(len({id(each) for each in lists}), len(lists))

    def test_told_list_does_not_hang_on_the_plan(self):
        plan = [(-1, -1), (-1, 0)]
        told = left(plan, (1, 4))
        plan[0] = (-1, None)
        plan.pop()
        self.assertEqual(told, [(1, 2), (3, 4)])
        self.assertEqual(left(plan, (1, 4)), [(3, 4)])


if __name__ == "__main__":
    unittest.main()
