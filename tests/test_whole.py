import unittest

from ropeclock.burning import left
from ropeclock.errors import Late
from ropeclock.notes import read, shown
from ropeclock.plans import book, outs
from ropeclock.reach import first_plan, measured, next_moment
from ropeclock.times import earlier
from walking import all_plans, as_told, burn, some_good_plans, some_plans


def answer(ask, plan):
    """What is told, and the late rope; one of the two is None."""
    try:
        return ask(plan), None
    except Late as late:
        return None, late.rope


class TestWalked(unittest.TestCase):
    def check(self, plan):
        moments, late = burn(plan)
        told, rope = answer(outs, plan)
        if late:
            self.assertEqual((told, rope), (None, late[0]), plan)
            self.assertEqual(answer(book, plan), (None, late[0]), plan)
        else:
            self.assertEqual((told, rope), ([as_told(moment) for moment in moments], None), plan)
        return bool(late)

    def test_every_plan_of_up_to_four_ropes(self):
        for length in range(1, 5):
            late = [self.check(plan) for plan in all_plans(length)]
            self.assertIn(False, late)
            self.assertEqual(True in late, length > 1)

    def test_some_plans_of_many_ropes(self):
        late = []
        for length in range(5, 15):
            late.extend(self.check(plan) for plan in some_plans(length, 40, length))
            late.extend(self.check(plan) for plan in some_good_plans(length, 10, length))
        self.assertIn(True, late)
        self.assertIn(False, late)


class TestAdded(unittest.TestCase):
    def test_moments_of_the_first_ropes_stay(self):
        for plan in some_good_plans(12, 20, 12):
            told = outs(plan)
            for length in range(1, 12):
                self.assertEqual(outs(plan[:length]), told[:length])

    def test_late_rope_stays_the_first_one(self):
        for plan in some_plans(12, 60, 4):
            rope = answer(outs, plan)[1]
            if rope is None:
                continue
            self.assertIsNotNone(answer(outs, plan[:rope])[0])
            for length in range(rope + 1, 13):
                self.assertEqual(answer(outs, plan[:length]), (None, rope))
                self.assertEqual(answer(book, plan[:length]), (None, rope))

    def test_last_page_is_the_latest_moment(self):
        for plan in all_plans(3) + some_good_plans(12, 20, 5):
            told = answer(outs, plan)[0]
            if told is None:
                continue
            last = book(plan)[-1]
            self.assertIn(last[0], told)
            self.assertFalse(any(earlier(last[0], moment) for moment in told))
            self.assertEqual(last[1], [rope for rope, moment in enumerate(told) if moment == last[0]])
            self.assertEqual(last[2], [])


class TestTogether(unittest.TestCase):
    def test_first_plans_written_read_and_burnt(self):
        for most in range(1, 5):
            for moment in measured(most):
                plan = read(shown(first_plan(moment, most)))
                self.assertEqual(outs(plan)[-1], moment)
                self.assertEqual(left(plan, moment)[-1], (0, 1))

    def test_every_plan_measures_one_of_the_moments(self):
        for length in range(1, 5):
            moments = measured(length)
            for plan in all_plans(length):
                told = answer(outs, plan)[0]
                if told is not None:
                    self.assertTrue(all(moment in moments for moment in told))

    def test_a_changed_first_plan_is_burnt_as_changed(self):
        plan = first_plan((3, 4), 4)
        plan.append((1, None))
        self.assertEqual(outs(plan), [(1, 2), (3, 4), (7, 4)])
        self.assertEqual(left(plan, (1, 1)), [(0, 1), (0, 1), (3, 4)])
        self.assertEqual(shown(plan), "o+o, o+a, b")
        self.assertEqual(first_plan((3, 4), 4), [(-1, -1), (-1, 0)])
        self.assertEqual(next_moment((3, 4), 2), (1, 1))


if __name__ == "__main__":
    unittest.main()
