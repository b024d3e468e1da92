"""Point 5, point 7 of sums, and point 2 of what they tell."""

import itertools
import unittest

from nearerwork.lexis import words
from nearerwork.sums import Minus, Named, Number, Plus, Sum, Times

GREAT = 10 ** 60 + 7
VALUES = (0, 1, -1, 2, 5, 99, -37, GREAT, -GREAT)
X, Y, FAR = Named("x"), Named("y"), Named("@x")
# ( ( ( x + 3 ) * @x ) - ( y * y ) )
WITHIN = Minus(Times(Plus(X, Number(3)), FAR), Times(Y, Y))


def nested(depth):
    one = Named("x")
    for step in range(depth):
        one = Plus(Number(1), one)
    return one


class Worth(unittest.TestCase):
    def test_numbers(self):
        for number in (0, 1, 9, 10, 99):
            self.assertEqual(number, Number(number).worth({}))
            self.assertEqual(number, Number(number).worth({"x": 5}))

    def test_names(self):
        for value in VALUES:
            self.assertEqual(value, X.worth({"x": value}))
            self.assertEqual(value, X.worth({"y": 3, "x": value, "@x": 4}))
            self.assertEqual(value, Named("abcdefgh").worth({"abcdefgh": value}))

    def test_far_names_with_their_sign(self):
        for value in VALUES:
            self.assertEqual(value, FAR.worth({"@x": value}))
            self.assertEqual(value, FAR.worth({"x": 4, "@x": value, "@y": 6}))

    def test_two_sums(self):
        for one, other in itertools.product(VALUES, VALUES):
            values = {"x": one, "y": other}
            with self.subTest(one=one, other=other):
                self.assertEqual(one + other, Plus(X, Y).worth(values))
                self.assertEqual(one - other, Minus(X, Y).worth(values))
                self.assertEqual(one * other, Times(X, Y).worth(values))

    def test_of_numbers(self):
        self.assertEqual(9, Plus(Number(7), Number(2)).worth({}))
        self.assertEqual(5, Minus(Number(7), Number(2)).worth({}))
        self.assertEqual(-5, Minus(Number(2), Number(7)).worth({}))
        self.assertEqual(14, Times(Number(7), Number(2)).worth({}))

    def test_one_within_another(self):
        for x, y, far in itertools.product(VALUES, VALUES, VALUES):
            values = {"x": x, "y": y, "@x": far}
            self.assertEqual((x + 3) * far - y * y, WITHIN.worth(values))

    def test_on_either_side(self):
        values = {"x": 20, "y": 7, "@x": 2}
        self.assertEqual(11, Minus(Minus(X, Y), FAR).worth(values))
        self.assertEqual(15, Minus(X, Minus(Y, FAR)).worth(values))
        self.assertEqual(54, Times(Plus(X, Y), FAR).worth(values))
        self.assertEqual(34, Plus(X, Times(Y, FAR)).worth(values))

    def test_deep_ones(self):
        for depth in (8, 9, 60):
            self.assertEqual(depth - GREAT, nested(depth).worth({"x": -GREAT}))

    def test_a_sum_that_stands_twice_in_another(self):
        one = Plus(X, Number(1))
        self.assertEqual(16, Times(one, one).worth({"x": 3}))

    def test_whole_numbers_are_told(self):
        for one in (Sum(), Number(1), X, Plus(X, Y), Minus(X, Y), Times(X, Y), WITHIN):
            self.assertIs(int, type(one.worth({"x": 1, "y": 0, "@x": 1})))

    def test_values_stay_as_they_were(self):
        values = {"y": 2, "x": 1, "@x": 3, "more": 4}
        for one in (Sum(), Number(1), X, FAR, Plus(X, Y), Minus(X, Y), Times(X, Y), WITHIN):
            one.worth(values)
            self.assertEqual([("y", 2), ("x", 1), ("@x", 3), ("more", 4)], list(values.items()))

    def test_only_the_values_handed_in_count(self):
        values = {"x": 1, "y": 2, "@x": 3}
        self.assertEqual(8, WITHIN.worth(values))
        values["x"] = 5
        self.assertEqual(20, WITHIN.worth(values))
        self.assertEqual(8, WITHIN.worth({"x": 1, "y": 2, "@x": 3}))
        self.assertEqual(8, WITHIN.worth({"x": 1, "y": 2, "@x": 3}))


class Names(unittest.TestCase):
    def test_of_each_sort(self):
        self.assertEqual([], Number(5).named())
        self.assertEqual(["x"], X.named())
        self.assertEqual(["@x"], FAR.named())
        for made in (Plus, Minus, Times):
            self.assertEqual(["x", "y"], made(X, Y).named())
            self.assertEqual(["x", "y"], made(Y, X).named())
            self.assertEqual(["x"], made(X, Number(2)).named())
            self.assertEqual(["y"], made(Number(2), Y).named())
            self.assertEqual([], made(Number(2), Number(3)).named())

    def test_each_once(self):
        self.assertEqual(["x"], Plus(X, X).named())
        self.assertEqual(["x"], Times(Minus(X, Number(1)), Plus(X, X)).named())
        self.assertEqual(["x"], nested(12).named())

    def test_sorted_with_far_names(self):
        self.assertEqual(["@x", "x", "y"], WITHIN.named())
        self.assertEqual(["@b", "@z", "a", "ab", "b", "z"], Plus(
            Times(Named("z"), Plus(Named("ab"), Named("@z"))),
            Minus(Plus(Named("b"), Named("@b")), Plus(Named("a"), Named("z"))),
        ).named())

    def test_a_new_list_each_time(self):
        for one in (Sum(), Number(1), X, FAR, Plus(X, Y), Minus(X, X), Times(FAR, Y), WITHIN):
            told = one.named()
            kept = list(told)
            self.assertIs(list, type(told))
            again = one.named()
            self.assertIsNot(told, again)
            told.append("zz")
            told.insert(0, "aa")
            self.assertEqual(kept, again)
            self.assertEqual(kept, one.named())

    def test_a_changed_list_changes_no_sum_around(self):
        inner = Plus(X, Y)
        outer = Times(inner, Number(2))
        inner.named().append("zz")
        self.assertEqual(["x", "y"], outer.named())
        self.assertEqual("( ( x + y ) * 2 )", outer.shown())


class Shown(unittest.TestCase):
    def test_of_each_sort(self):
        self.assertEqual("0", Number(0).shown())
        self.assertEqual("99", Number(99).shown())
        self.assertEqual("x", X.shown())
        self.assertEqual("@x", FAR.shown())
        self.assertEqual("( x + y )", Plus(X, Y).shown())
        self.assertEqual("( x - y )", Minus(X, Y).shown())
        self.assertEqual("( x * y )", Times(X, Y).shown())
        self.assertEqual("( 1 - @x )", Minus(Number(1), FAR).shown())

    def test_one_within_another(self):
        self.assertEqual("( ( ( x + 3 ) * @x ) - ( y * y ) )", WITHIN.shown())
        self.assertEqual("( x - ( y - 1 ) )", Minus(X, Minus(Y, Number(1))).shown())
        self.assertEqual("( ( x - y ) - 1 )", Minus(Minus(X, Y), Number(1)).shown())

    def test_one_blank_between_words(self):
        for one in (Sum(), Number(10), X, FAR, Plus(X, Y), WITHIN, nested(8)):
            self.assertEqual(" ".join(words(one.shown())), one.shown())

    def test_the_same_each_time(self):
        self.assertEqual(WITHIN.shown(), WITHIN.shown())
        WITHIN.worth({"x": 1, "y": 2, "@x": 3})
        self.assertEqual("( ( ( x + 3 ) * @x ) - ( y * y ) )", WITHIN.shown())


class Itself(unittest.TestCase):
    def test_a_sum_itself(self):
        self.assertEqual(0, Sum().worth({}))
        self.assertEqual(0, Sum().worth({"x": 5}))
        self.assertEqual([], Sum().named())
        self.assertEqual("0", Sum().shown())

    def test_within_another(self):
        one = Minus(Sum(), X)
        self.assertEqual(-5, one.worth({"x": 5}))
        self.assertEqual(["x"], one.named())
        self.assertEqual("( 0 - x )", one.shown())

    def test_each_sort_stands_under_it(self):
        for one in (Number(1), X, FAR, Plus(X, Y), Minus(X, Y), Times(X, Y)):
            self.assertIsInstance(one, Sum)

    def test_the_sorts_are_unlike(self):
        sorts = (Number, Named, Plus, Minus, Times)
        for one in (Number(1), X, Plus(X, Y), Minus(X, Y), Times(X, Y)):
            self.assertEqual(1, len([sort for sort in sorts if isinstance(one, sort)]))


if __name__ == "__main__":
    unittest.main()
