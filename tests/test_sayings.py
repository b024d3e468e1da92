"""Point 6, point 7 of sayings, and point 2 of what they tell."""

import itertools
import operator
import unittest

from nearerwork.lexis import words
from nearerwork.sayings import AtMost, Both, Either, Equal, Less, Not, Saying, Unlike
from nearerwork.sums import Minus, Named, Number, Plus, Sum, Times

GREAT = 10 ** 60 + 7
VALUES = (0, 1, -1, 2, 99, -37, GREAT, GREAT + 1, -GREAT, -GREAT - 1)
X, Y, FAR = Named("x"), Named("y"), Named("@x")
COMPARED = (
    (Less, operator.lt, "<"), (AtMost, operator.le, "<="), (Equal, operator.eq, "="), (Unlike, operator.ne, "!="),
)
YES = Saying()
NO = Not(Saying())
# [ [ x < y or [ not @x = 3 ] ] and [ ( x + 1 ) != ( y * @x ) or x <= 0 ] ]
WITHIN = Both(
    Either(Less(X, Y), Not(Equal(FAR, Number(3)))),
    Either(Unlike(Plus(X, Number(1)), Times(Y, FAR)), AtMost(X, Number(0))),
)
EACH = (YES, Less(X, Y), AtMost(X, Y), Equal(X, FAR), Unlike(Y, X), Both(YES, Less(X, Y)), Either(NO, Less(Y, X)),
        Not(Less(X, Y)), NO, WITHIN)


class Holds(unittest.TestCase):
    def test_yes_holds_always(self):
        for values in ({}, {"x": 0}, {"x": GREAT, "@x": -GREAT}):
            self.assertIs(True, Saying().holds(values))

    def test_two_sums_compared(self):
        for made, asked, sign in COMPARED:
            for one, other in itertools.product(VALUES, VALUES):
                with self.subTest(sign=sign, one=one, other=other):
                    self.assertIs(asked(one, other), made(X, Y).holds({"x": one, "y": other}))
                    self.assertIs(asked(one, other), made(FAR, X).holds({"x": other, "@x": one}))

    def test_numbers_compared(self):
        for made, asked, sign in COMPARED:
            for one, other in itertools.product((0, 1, 2, 98, 99), repeat=2):
                self.assertIs(asked(one, other), made(Number(one), Number(other)).holds({}))

    def test_sums_within(self):
        for made, asked, sign in COMPARED:
            for x, y in itertools.product(VALUES, VALUES):
                saying = made(Minus(X, Times(Y, Y)), Plus(Y, Number(2)))
                self.assertIs(asked(x - y * y, y + 2), saying.holds({"x": x, "y": y}))

    def test_far_names_are_others_than_names(self):
        self.assertIs(True, Less(X, FAR).holds({"x": 1, "@x": 2}))
        self.assertIs(False, Less(X, FAR).holds({"x": 2, "@x": 1}))
        self.assertIs(False, Equal(X, FAR).holds({"x": 2, "@x": 1}))

    def test_both_either_and_not(self):
        for one, other in itertools.product((YES, NO), repeat=2):
            held = (one.holds({}), other.holds({}))
            self.assertIs(held == (True, True), Both(one, other).holds({}))
            self.assertIs(held != (False, False), Either(one, other).holds({}))
        self.assertIs(False, Not(YES).holds({}))
        self.assertIs(True, Not(NO).holds({}))

    def test_of_compared_sums(self):
        for x, y in itertools.product(VALUES, VALUES):
            values = {"x": x, "y": y}
            self.assertIs(x < y and y != 2, Both(Less(X, Y), Unlike(Y, Number(2))).holds(values))
            self.assertIs(x < y or y != 2, Either(Less(X, Y), Unlike(Y, Number(2))).holds(values))
            self.assertIs(not x <= y, Not(AtMost(X, Y)).holds(values))

    def test_one_within_another(self):
        for x, y, far in itertools.product(VALUES + (3,), repeat=3):
            values = {"x": x, "y": y, "@x": far}
            asked = (x < y or not far == 3) and (x + 1 != y * far or x <= 0)
            self.assertIs(asked, WITHIN.holds(values))

    def test_deep_ones(self):
        one = Less(X, Number(1))
        for depth in range(60):
            one = Not(one) if depth % 2 else Both(YES, one)
        self.assertIs(True, one.holds({"x": -GREAT}))
        self.assertIs(False, one.holds({"x": GREAT}))

    def test_truths_are_told(self):
        for saying in EACH:
            for values in ({"x": 1, "y": 0, "@x": 1}, {"x": 0, "y": 5, "@x": 3}, {"x": 0, "y": 0, "@x": 0}):
                self.assertIs(bool, type(saying.holds(values)))

    def test_values_stay_as_they_were(self):
        values = {"y": 2, "x": 1, "@x": 3, "more": 4}
        for saying in EACH:
            saying.holds(values)
            self.assertEqual([("y", 2), ("x", 1), ("@x", 3), ("more", 4)], list(values.items()))

    def test_only_the_values_handed_in_count(self):
        values = {"x": 1, "y": 2}
        saying = Less(X, Y)
        self.assertIs(True, saying.holds(values))
        values["x"] = 2
        self.assertIs(False, saying.holds(values))
        self.assertIs(True, saying.holds({"x": 1, "y": 2}))


class Names(unittest.TestCase):
    def test_of_each_sort(self):
        self.assertEqual([], Saying().named())
        self.assertEqual([], Not(Saying()).named())
        for made, asked, sign in COMPARED:
            self.assertEqual(["x", "y"], made(X, Y).named())
            self.assertEqual(["x", "y"], made(Y, X).named())
            self.assertEqual(["@x", "x"], made(X, FAR).named())
            self.assertEqual(["x"], made(X, Number(1)).named())
            self.assertEqual(["y"], made(Number(1), Y).named())
            self.assertEqual([], made(Number(1), Sum()).named())
        for made in (Both, Either):
            self.assertEqual(["@x", "x", "y"], made(Less(Y, X), Equal(FAR, X)).named())
            self.assertEqual(["x"], made(YES, Equal(X, Number(1))).named())
            self.assertEqual(["x"], made(Equal(X, Number(1)), YES).named())
            self.assertEqual([], made(YES, NO).named())
        self.assertEqual(["x", "y"], Not(Less(Y, X)).named())

    def test_each_once(self):
        self.assertEqual(["x"], Less(X, X).named())
        self.assertEqual(["x"], Both(Equal(X, X), Not(Less(X, Plus(X, X)))).named())

    def test_sorted_with_far_names(self):
        self.assertEqual(["@x", "x", "y"], WITHIN.named())
        saying = Either(
            Both(Less(Named("z"), Named("@z")), Not(Equal(Named("ab"), Named("b")))),
            Unlike(Plus(Named("@b"), Named("a")), Named("z")),
        )
        self.assertEqual(["@b", "@z", "a", "ab", "b", "z"], saying.named())

    def test_a_new_list_each_time(self):
        for saying in EACH:
            told = saying.named()
            kept = list(told)
            again = saying.named()
            self.assertIs(list, type(told))
            self.assertIsNot(told, again)
            told.append("zz")
            told.insert(0, "aa")
            self.assertEqual(kept, again)
            self.assertEqual(kept, saying.named())
            self.assertEqual(kept, Not(saying).named())


class Shown(unittest.TestCase):
    def test_of_each_sort(self):
        self.assertEqual("yes", Saying().shown())
        for made, asked, sign in COMPARED:
            self.assertEqual(f"x {sign} y", made(X, Y).shown())
            self.assertEqual(f"@x {sign} 12", made(FAR, Number(12)).shown())
            self.assertEqual(f"( x + 1 ) {sign} ( y - 2 )", made(
                Plus(X, Number(1)), Minus(Y, Number(2))).shown())
        self.assertEqual("[ x < y and yes ]", Both(Less(X, Y), YES).shown())
        self.assertEqual("[ yes or x = y ]", Either(YES, Equal(X, Y)).shown())
        self.assertEqual("[ not x <= y ]", Not(AtMost(X, Y)).shown())

    def test_one_within_another(self):
        self.assertEqual(
            "[ [ x < y or [ not @x = 3 ] ] and [ ( x + 1 ) != ( y * @x ) or x <= 0 ] ]", WITHIN.shown())
        self.assertEqual("[ not [ not yes ] ]", Not(NO).shown())

    def test_one_blank_between_words(self):
        for saying in EACH:
            self.assertEqual(" ".join(words(saying.shown())), saying.shown())

    def test_the_same_each_time(self):
        for saying in EACH:
            shown = saying.shown()
            saying.holds({"x": 1, "y": 2, "@x": 3})
            saying.named()
            self.assertEqual(shown, saying.shown())


class Itself(unittest.TestCase):
    def test_a_saying_itself(self):
        self.assertIs(True, Saying().holds({"x": 1}))
        self.assertEqual([], Saying().named())
        self.assertEqual("yes", Saying().shown())

    def test_each_sort_stands_under_it(self):
        for saying in EACH:
            self.assertIsInstance(saying, Saying)

    def test_the_sorts_are_unlike(self):
        sorts = (Less, AtMost, Equal, Unlike, Both, Either, Not)
        for saying in EACH[1:]:
            self.assertEqual(1, len([sort for sort in sorts if isinstance(saying, sort)]))
        self.assertFalse(isinstance(YES, sorts))


if __name__ == "__main__":
    unittest.main()
