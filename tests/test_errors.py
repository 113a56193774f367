import unittest

from ropeclock.burning import left
from ropeclock.errors import Late, NoPlan, RopeError
from ropeclock.notes import read
from ropeclock.plans import book, outs

LATE = [(-1, None), (-1, 0)]


def left_at_once(plan):
    return left(plan, (0, 1))


ASKED = (outs, book, left_at_once)


class TestErrors(unittest.TestCase):
    def test_what_stands_under_what(self):
        self.assertEqual(RopeError.__bases__, (ValueError,))
        self.assertEqual(Late.__bases__, (RopeError,))
        self.assertEqual(NoPlan.__bases__, (RopeError,))

    def test_neither_under_the_other(self):
        self.assertFalse(issubclass(Late, NoPlan))
        self.assertFalse(issubclass(NoPlan, Late))

    def test_rope_is_set_when_made(self):
        for rope in (0, 1, 11, 40):
            self.assertEqual(Late(rope).rope, rope)

    def test_each_object_has_its_own_rope(self):
        first = Late(3)
        second = Late(5)
        self.assertEqual((first.rope, second.rope), (3, 5))

    def test_rope_error_and_no_plan_can_be_raised(self):
        for kind in (RopeError, NoPlan):
            with self.assertRaises(ValueError):
                raise kind("words")
        with self.assertRaises(RopeError):
            raise NoPlan("words")

    def test_late_plan_is_taken_by_each_of_its_classes(self):
        for ask in ASKED:
            for kind in (Late, RopeError, ValueError):
                with self.assertRaises(kind) as taken:
                    ask(LATE)
                self.assertIs(type(taken.exception), Late)
                self.assertEqual(taken.exception.rope, 1)

    def test_late_plan_is_not_taken_as_no_plan(self):
        for ask in ASKED:
            try:
                ask(LATE)
            except NoPlan:
                self.fail("taken as NoPlan")
            except Late as late:
                self.assertEqual(late.rope, 1)
            else:
                self.fail("not refused")

    def test_text_that_is_no_plan_is_taken_by_each_of_its_classes(self):
        for kind in (NoPlan, RopeError, ValueError):
            with self.assertRaises(kind) as taken:
                read("a")
            self.assertIs(type(taken.exception), NoPlan)

    def test_text_that_is_no_plan_is_not_taken_as_late(self):
        try:
            read("a")
        except Late:
            self.fail("taken as Late")
        except NoPlan:
            pass
        else:
            self.fail("not refused")


if __name__ == "__main__":
    unittest.main()
