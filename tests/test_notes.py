import copy
import itertools
import unittest

from ropeclock.errors import Late, NoPlan, RopeError
from ropeclock.notes import read, shown
from ropeclock.plans import outs
from walking import all_plans, burn, ropes_at, some_good_plans, some_plans

# Every sign that a text may have.
SIGNS = [chr(number) for number in range(32, 127) if chr(number) != "%"] + ["\n"]
WRITTEN = [
    ([(-1, None)], "o"),
    ([(-1, -1)], "o+o"),
    ([(-1, -1), (0, None)], "o+o, a"),
    ([(-1, -1), (-1, 0)], "o+o, o+a"),
    ([(-1, None), (0, 0)], "o, a+a"),
    ([(-1, None), (-1, -1), (0, 1)], "o, o+o, a+b"),
    ([(-1, None), (-1, 0)], "o, o+a"),
    ([(-1, None)] * 12, "o, o, o, o, o, o, o, o, o, o, o, o"),
    ([(-1, -1)] * 12, "o+o, o+o, o+o, o+o, o+o, o+o, o+o, o+o, o+o, o+o, o+o, o+o"),
    ([(number - 1, None) for number in range(12)], "o, a, b, c, d, e, f, g, h, i, j, k"),
    ([(number - 1, number - 1) for number in range(12)],
     "o+o, a+a, b+b, c+c, d+d, e+e, f+f, g+g, h+h, i+i, j+j, k+k"),
    ([(-1, number - 1) for number in range(12)], "o+o, o+a, o+b, o+c, o+d, o+e, o+f, o+g, o+h, o+i, o+j, o+k"),
]
WRONG = [
    "", " ", "\n", ",", ", ", "+", "o+", "+o", "++", "+", "o++o", "o+o+o", "oo", "o o", "o-o", "o,o", "o ,o",
    "a", "a+a", "o+a", "a+o", "b", "o, b", "o, o+b", "o, b+b", "o, a+b", "o, c", "o, o, c", "o, o, a+c", "o, z",
    "o, a+o", "o+o, a+o", "o, o, b+a", "o, o, b+o",
    " o", "o ", "o,  o", "o , o", "o,o+o", "o, ", ", o", "o, , o", "o,, o", "o, o,", "o, o, ", "o; o", "o. o",
    "o +o", "o+ o", "o + o", "o+o ", " o+o",
    "\no", "o\n", "o+o\n", "o,\no", "o, o\n", "o\n, o", "o+\n", "\n+o", "o\no", "o, \n",
    "O", "O+O", "o+O", "o, A", "o, O+a", "o, o+A",
    "0", "-1", "1", "0+0", "-1+-1", "o, 0", "o, o+0", "o, 1", "None", "o+None", "[(-1, None)]", "o+~", "o, `", "o, @",
]


def read_or_none(text):
    try:
        return read(text)
    except NoPlan:
        return None


def spoiled(text):
    """The texts that one sign put in, changed or taken out makes of it."""
    texts = []
    for place in range(len(text) + 1):
        texts.extend(text[:place] + sign + text[place:] for sign in SIGNS)
    for place in range(len(text)):
        texts.extend(text[:place] + sign + text[place + 1:] for sign in SIGNS)
        texts.append(text[:place] + text[place + 1:])
    return texts


class TestShown(unittest.TestCase):
    def test_argument_names(self):
        self.assertEqual(shown(plan=[(-1, -1)]), "o+o")

    def test_written(self):
        for plan, text in WRITTEN:
            self.assertEqual(shown(plan), text)
            self.assertIs(type(shown(plan)), str)

    def test_late_plans(self):
        for plan, text in (([(-1, None), (-1, 0)], "o, o+a"), ([(-1, None), (0, None), (-1, 1)], "o, a, o+b")):
            with self.assertRaises(Late):
                outs(plan)
            self.assertEqual(shown(plan), text)

    def test_no_two_plans_have_one_text(self):
        plans = [plan for length in range(1, 5) for plan in all_plans(length)]
        self.assertEqual(len({shown(plan) for plan in plans}), len(plans))

    def test_somewhat_beyond_twelve_ropes(self):
        self.assertEqual(shown([(-1, None)] * 13), ", ".join(["o"] * 13))
        self.assertEqual(shown([(number - 1, None) for number in range(14)]), "o, a, b, c, d, e, f, g, h, i, j, k, l, m")
        self.assertEqual(shown([]), "")


class TestRead(unittest.TestCase):
    def refused(self, text):
        with self.assertRaises(NoPlan, msg=repr(text)):
            read(text)

    def test_argument_names(self):
        self.assertEqual(read(text="o+o"), [(-1, -1)])

    def test_written(self):
        for plan, text in WRITTEN:
            self.assertEqual(read(text), plan)

    def test_told_kinds(self):
        for plan, text in WRITTEN:
            told = read(text)
            self.assertIs(type(told), list)
            for rope in told:
                self.assertIs(type(rope), tuple)
                self.assertEqual(len(rope), 2)
                self.assertIs(type(rope[0]), int)
                self.assertIn(type(rope[1]), (int, type(None)))

    def test_every_plan_of_up_to_four_ropes(self):
        for length in range(1, 5):
            for plan in all_plans(length):
                self.assertEqual(read(shown(plan)), plan)

    def test_some_plans_of_many_ropes(self):
        late = []
        for length in range(5, 13):
            for plan in some_plans(length, 40, length) + some_good_plans(length, 5, length):
                self.assertEqual(read(shown(plan)), plan)
                late.append(bool(burn(plan)[1]))
        self.assertEqual(set(late), {True, False})

    def test_every_rope_at_every_place(self):
        for number in range(12):
            for rope in ropes_at(number):
                plan = [(-1, None)] * number + [rope]
                self.assertEqual(read(shown(plan)), plan)

    def test_wrong_texts(self):
        for text in WRONG:
            self.refused(text)

    def test_mark_for_the_rope_itself_or_one_behind_it(self):
        for number in range(12):
            ahead = "o, " * number
            for mark in "abcdefghijklmnpqrstuvwxyz"[number:]:
                self.refused(ahead + mark)
                self.refused(ahead + mark + "+" + mark)
                self.refused(ahead + "o+" + mark)
                self.refused(ahead + mark + ", o")

    def test_other_less_than_one(self):
        marks = "oabcdefghijk"
        for number in range(1, 12):
            for one, other in itertools.combinations(range(number + 1), 2):
                self.refused("o, " * number + marks[other] + "+" + marks[one])

    def test_thirteen_ropes(self):
        self.assertEqual(len(read(", ".join(["o"] * 12))), 12)
        for length in (13, 14, 15, 27, 1000):
            self.refused(", ".join(["o"] * length))
            self.refused(", ".join(["o+o"] * length))
        self.refused("o, a, b, c, d, e, f, g, h, i, j, k, l")
        self.refused(shown([(number - 1, None) for number in range(13)]))

    def test_any_short_text(self):
        plans = [plan for length in range(1, 3) for plan in all_plans(length)]
        written = {shown(plan): plan for plan in plans}
        for length in range(0, 7):
            for signs in itertools.product("oab+, \n", repeat=length):
                text = "".join(signs)
                self.assertEqual(read_or_none(text), written.get(text), repr(text))

    def test_texts_spoiled_by_one_sign(self):
        texts = [text for plan, text in WRITTEN] + [shown(plan) for plan in some_plans(12, 5, 13)]
        for text in texts:
            for other in spoiled(text):
                told = read_or_none(other)
                if told is None:
                    continue
                # What is read all the same must be the writing of another plan.
                self.assertIn(len(told), range(1, 13), repr(other))
                self.assertTrue(all(rope in ropes_at(number) for number, rope in enumerate(told)), repr(other))
                self.assertEqual(shown(told), other)

    def test_signs_of_one_rope(self):
        second = {"o": [(-1, None), (-1, None)], "a": [(-1, None), (0, None)]}
        for sign in SIGNS:
            self.assertEqual(read_or_none(sign), [(-1, None)] if sign == "o" else None)
            self.assertEqual(read_or_none("o, " + sign), second.get(sign))
            self.assertEqual(read_or_none("o" + sign + "o"), [(-1, -1)] if sign == "+" else None)

    def test_very_long_text(self):
        self.refused("o" * 100000)
        self.refused(", " * 100000)
        self.refused("o, " * 100000 + "o")

    def test_refusal_and_its_classes(self):
        for kind in (NoPlan, RopeError, ValueError):
            with self.assertRaises(kind) as taken:
                read("")
            self.assertIs(type(taken.exception), NoPlan)
            self.assertNotIsInstance(taken.exception, Late)

    def test_late_plan_is_read(self):
        plan = read("o, o+a")
        self.assertEqual(plan, [(-1, None), (-1, 0)])
        with self.assertRaises(Late):
            outs(plan)


class TestNothingIsShared(unittest.TestCase):
    def test_plan_stays_as_it_was(self):
        for plan in some_plans(12, 30, 14):
            before = copy.deepcopy(plan)
            shown(plan)
            self.assertEqual(plan, before)

    def test_changed_plan_is_written_anew(self):
        plan = [(-1, -1), (0, None)]
        self.assertEqual(shown(plan), "o+o, a")
        plan.append((0, 1))
        plan[0] = (-1, None)
        self.assertEqual(shown(plan), "o, a, a+b")

    def test_told_plan_may_be_changed(self):
        for plan, text in WRITTEN:
            told = read(text)
            told[0] = (5, 5)
            told.append((6, None))
            self.assertEqual(read(text), plan)

    def test_no_two_lists_are_one(self):
        lists = [read(text) for plan, text in WRITTEN + WRITTEN]
        self.assertEqual(len({id(each) for each in lists}), len(lists))


if __name__ == "__main__":
    unittest.main()
