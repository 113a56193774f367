import copy
import unittest

from ropeclock.errors import Late
from ropeclock.plans import book, outs
from walking import as_told, burn, some_good_plans, some_plans

# Each rope burns from the beginning, and from the end of the one ahead of it: 1/2, 3/4, 7/8 ..
CLOSER = [(-1, number - 1) for number in range(12)]


class TestOuts(unittest.TestCase):
    def refused(self, plan, rope):
        for ask in (outs, book):
            with self.assertRaises(Late) as taken:
                ask(plan)
            self.assertEqual(taken.exception.rope, rope)

    def test_one_rope(self):
        self.assertEqual(outs([(-1, None)]), [(1, 1)])
        self.assertEqual(outs([(-1, -1)]), [(1, 2)])

    def test_argument_names(self):
        self.assertEqual(outs(plan=[(-1, -1)]), [(1, 2)])
        self.assertEqual(len(book(plan=[(-1, -1)])), 2)

    def test_told_kinds(self):
        told = outs([(-1, -1), (0, None)])
        self.assertIs(type(told), list)
        for moment in told:
            self.assertIs(type(moment), tuple)
            self.assertEqual([type(part) for part in moment], [int, int])

    def test_three_quarters(self):
        self.assertEqual(outs([(-1, -1), (-1, 0)]), [(1, 2), (3, 4)])

    def test_other_end_never_lit(self):
        self.assertEqual(outs([(-1, -1), (0, None), (1, None)]), [(1, 2), (3, 2), (5, 2)])

    def test_both_ends_at_one_moment(self):
        self.assertEqual(outs([(-1, None), (0, 0)]), [(1, 1), (3, 2)])
        self.assertEqual(outs([(-1, -1), (-1, -1), (0, 1)]), [(1, 2), (1, 2), (1, 1)])

    def test_other_end_lit_first(self):
        self.assertEqual(outs([(-1, None), (-1, -1), (0, 1)]), [(1, 1), (1, 2), (5, 4)])

    def test_twelve_ropes(self):
        told = outs(CLOSER)
        self.assertEqual(told, [(2 ** n - 1, 2 ** n) for n in range(1, 13)])
        hours = [(-1, None)] + [(number, None) for number in range(11)]
        self.assertEqual(outs(hours), [(n, 1) for n in range(1, 13)])

    def test_just_under_an_hour_apart(self):
        # Rope 10 is out at 2047/2048.
        self.assertEqual(outs(CLOSER)[10:], [(2047, 2048), (4095, 4096)])

    def test_just_under_an_hour_apart_other_end_first(self):
        # Rope 9 is out at 1 + 511/512, rope 10 at 1023/1024.
        plan = CLOSER[:9] + [(8, None), (-1, 8), (9, 10)]
        self.assertEqual(outs(plan)[9:], [(1023, 512), (1023, 1024), (4093, 2048)])

    def test_just_an_hour_apart(self):
        self.refused([(-1, None), (-1, 0)], 1)
        self.refused([(-1, -1), (0, None), (0, 1)], 2)

    def test_just_an_hour_apart_other_end_first(self):
        self.refused([(-1, -1), (0, None), (-1, -1), (1, 2)], 3)

    def test_more_than_an_hour_apart(self):
        self.refused([(-1, None), (0, None), (-1, 1)], 2)
        self.refused([(-1, -1), (0, None), (-1, 1)], 2)

    def test_just_over_an_hour_apart(self):
        # Rope 8 is out at 511/512, rope 10 at 1 + 1023/1024.
        self.refused(CLOSER[:10] + [(9, None), (8, 10)], 11)

    def test_just_over_an_hour_apart_other_end_first(self):
        # Rope 9 is out at 1 + 511/512, rope 10 at 255/256.
        self.refused(CLOSER[:9] + [(8, None), (-1, 6), (9, 10)], 11)

    def test_more_than_an_hour_apart_other_end_first(self):
        self.refused([(-1, None), (0, None), (-1, -1), (1, 2)], 3)

    def test_first_late_rope_of_several(self):
        self.refused([(-1, None), (-1, 0), (-1, 0)], 1)
        self.refused([(-1, None), (0, None), (0, 0), (-1, 1), (-1, 0), (0, 1)], 3)

    def test_first_late_rope_by_number_not_by_moment(self):
        # Rope 2 is found out at moment 3/2, rope 3 already at moment 1.
        self.refused([(-1, None), (0, 0), (-1, 1), (-1, 0)], 2)

    def test_late_at_the_twelfth_rope(self):
        self.refused([(-1, None)] * 11 + [(-1, 0)], 11)

    def test_somewhat_more_than_twelve_ropes(self):
        longer = [(-1, number - 1) for number in range(40)]
        self.assertEqual(outs(longer)[39], (2 ** 40 - 1, 2 ** 40))
        self.assertEqual(book(longer)[-1], ((2 ** 40 - 1, 2 ** 40), [39], []))

    def test_no_rope(self):
        self.assertEqual(outs([]), [])
        self.assertEqual(book([]), [])


class TestBook(unittest.TestCase):
    def test_one_rope(self):
        self.assertEqual(book([(-1, None)]), [((0, 1), [], [(0, 0)]), ((1, 1), [0], [])])
        self.assertEqual(book([(-1, -1)]), [((0, 1), [], [(0, 0), (0, 1)]), ((1, 2), [0], [])])

    def test_told_kinds(self):
        for page in book([(-1, -1), (-1, 0)]):
            self.assertIs(type(page), tuple)
            self.assertEqual([type(part) for part in page], [tuple, list, list])
            for end in page[2]:
                self.assertIs(type(end), tuple)

    def test_three_quarters(self):
        self.assertEqual(book([(-1, -1), (-1, 0)]), [
            ((0, 1), [], [(0, 0), (0, 1), (1, 0)]),
            ((1, 2), [0], [(1, 1)]),
            ((3, 4), [1], []),
        ])

    def test_several_at_one_moment(self):
        self.assertEqual(book([(-1, -1), (-1, -1), (0, 1), (0, None), (1, 1)]), [
            ((0, 1), [], [(0, 0), (0, 1), (1, 0), (1, 1)]),
            ((1, 2), [0, 1], [(2, 0), (2, 1), (3, 0), (4, 0), (4, 1)]),
            ((1, 1), [2, 4], []),
            ((3, 2), [3], []),
        ])

    def test_moments_in_order_where_the_ropes_are_not(self):
        self.assertEqual(book([(-1, None), (-1, -1), (0, 1)]), [
            ((0, 1), [], [(0, 0), (1, 0), (1, 1)]),
            ((1, 2), [1], [(2, 1)]),
            ((1, 1), [0], [(2, 0)]),
            ((5, 4), [2], []),
        ])

    def test_order_is_by_time_not_by_top(self):
        moments = [page[0] for page in book(CLOSER[:4] + [(-1, None), (4, None)])]
        self.assertEqual(moments, [(0, 1), (1, 2), (3, 4), (7, 8), (15, 16), (1, 1), (2, 1)])

    def test_twelve_ropes_at_once(self):
        self.assertEqual(book([(-1, None)] * 12), [
            ((0, 1), [], [(number, 0) for number in range(12)]),
            ((1, 1), list(range(12)), []),
        ])

    def test_each_moment_once_and_all_of_it(self):
        for plan in some_good_plans(8, 60, 6):
            moments = burn(plan)[0]
            wanted = {}
            for number, rope in enumerate(plan):
                wanted.setdefault(moments[number], ([], []))[0].append(number)
                for side in (0, 1):
                    if rope[side] is not None:
                        lit = 0 if rope[side] == -1 else moments[rope[side]]
                        wanted.setdefault(lit, ([], []))[1].append((number, side))
            pages = [(as_told(moment),) + wanted[moment] for moment in sorted(wanted)]
            self.assertEqual(book(plan), pages)


class TestNothingIsShared(unittest.TestCase):
    def test_plan_stays_as_it_was(self):
        for plan in some_plans(12, 50, 1) + some_good_plans(12, 10, 2):
            before = copy.deepcopy(plan)
            for ask in (outs, book):
                try:
                    ask(plan)
                except Late:
                    pass
                self.assertEqual(plan, before)

    def test_told_outs_may_be_changed(self):
        plan = [(-1, -1), (-1, 0)]
        told = outs(plan)
        told.append((9, 1))
        told[0] = (5, 1)
        self.assertEqual(outs(plan), [(1, 2), (3, 4)])
        self.assertEqual([page[0] for page in book(plan)], [(0, 1), (1, 2), (3, 4)])

    def test_told_book_may_be_changed(self):
        plan = [(-1, -1), (-1, 0), (0, None)]
        wanted = copy.deepcopy(book(plan))
        told = book(plan)
        for page in told:
            page[1].append(77)
            page[2].append((77, 0))
        told.reverse()
        self.assertEqual(book(plan), wanted)
        self.assertEqual(outs(plan), [(1, 2), (3, 4), (3, 2)])

    def test_no_two_lists_are_one(self):
        for plan in some_good_plans(9, 20, 3) + [[(-1, None)] * 12]:
            first = book(plan)
            second = book(plan)
            lists = [plan, first, second, outs(plan), outs(plan)]
            for page in first + second:
                lists.extend(page[1:])
            self.assertEqual(len({id(each) for each in lists}), len(lists))

    def test_told_answers_do_not_hang_on_the_plan(self):
        plan = [(-1, -1), (-1, 0)]
        told_outs = outs(plan)
        told_book = book(plan)
        before = copy.deepcopy((told_outs, told_book))
        plan[0] = (-1, None)
        plan.pop()
        self.assertEqual((told_outs, told_book), before)
        self.assertEqual(outs(plan), [(1, 1)])
        self.assertEqual(book(plan), [((0, 1), [], [(0, 0)]), ((1, 1), [0], [])])

    def test_late_plan_mended_is_late_no_more(self):
        plan = [(-1, None), (-1, 0)]
        with self.assertRaises(Late):
            outs(plan)
        plan[0] = (-1, -1)
        self.assertEqual(outs(plan), [(1, 2), (3, 4)])


if __name__ == "__main__":
    unittest.main()
