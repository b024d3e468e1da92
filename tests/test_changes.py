"""Point 9 of changes, points 8 and 10 of how they are written, and point 2 of what they tell."""

import unittest

from nearerwork.changes import Any, Change, Deed, Put
from nearerwork.lexis import words
from nearerwork.sayings import Less, Saying
from nearerwork.sums import Minus, Named, Number, Plus, Sum, Times

GREAT = 10 ** 60 + 7
X, Y, Z = Named("x"), Named("y"), Named("z")
WORTHS = (-GREAT, -100, -2, -1, 0, 1, 2, 3, 4, 5, 6, 7, 8, 100, GREAT)
RANGES = ((0, 5), (2, 4), (3, 3), (0, 0), (94, 99), (-4, -1))


def between(one, other, low, high):
    return [value for value in range(low, high + 1) if one <= value <= other]


class PutChoices(unittest.TestCase):
    def test_inside_and_outside(self):
        for low, high in RANGES:
            for worth in WORTHS:
                with self.subTest(low=low, high=high, worth=worth):
                    asked = [worth] if low <= worth <= high else []
                    self.assertEqual(asked, Put("x", Y).choices({"x": 0, "y": worth}, low, high))

    def test_at_the_edges(self):
        change = Put("x", Y)
        self.assertEqual([], change.choices({"y": 1}, 2, 4))
        self.assertEqual([2], change.choices({"y": 2}, 2, 4))
        self.assertEqual([4], change.choices({"y": 4}, 2, 4))
        self.assertEqual([], change.choices({"y": 5}, 2, 4))

    def test_of_its_own_name(self):
        self.assertEqual([3], Put("x", Plus(X, Number(1))).choices({"x": 2}, 0, 5))
        self.assertEqual([], Put("x", Plus(X, Number(1))).choices({"x": 5}, 0, 5))
        self.assertEqual([], Put("x", Minus(X, Number(1))).choices({"x": 0}, 0, 5))


class AnyChoices(unittest.TestCase):
    def test_above_at_and_below(self):
        change = Any("x", Y, Z)
        for low, high in RANGES:
            for one in WORTHS:
                for other in WORTHS:
                    with self.subTest(low=low, high=high, one=one, other=other):
                        told = change.choices({"y": one, "z": other}, low, high)
                        self.assertEqual(between(one, other, low, high), told)

    def test_at_the_edges(self):
        change = Any("x", Y, Z)
        self.assertEqual([3], change.choices({"y": 3, "z": 3}, 0, 5))
        self.assertEqual([], change.choices({"y": 4, "z": 3}, 0, 5))
        self.assertEqual([3, 4], change.choices({"y": 3, "z": 4}, 0, 5))
        self.assertEqual([0, 1, 2, 3, 4, 5], change.choices({"y": 0, "z": 5}, 0, 5))
        self.assertEqual([0, 1, 2, 3, 4, 5], change.choices({"y": -1, "z": 6}, 0, 5))
        self.assertEqual([5], change.choices({"y": 5, "z": 6}, 0, 5))
        self.assertEqual([0], change.choices({"y": -1, "z": 0}, 0, 5))
        self.assertEqual([], change.choices({"y": 6, "z": 7}, 0, 5))
        self.assertEqual([], change.choices({"y": -2, "z": -1}, 0, 5))

    def test_worths_as_great_as_they_are(self):
        change = Any("x", Y, Z)
        self.assertEqual([2, 3, 4], change.choices({"y": -GREAT, "z": GREAT}, 2, 4))
        self.assertEqual([], change.choices({"y": GREAT, "z": -GREAT}, 2, 4))
        self.assertEqual([], change.choices({"y": GREAT, "z": GREAT + 5}, 2, 4))
        self.assertEqual([], change.choices({"y": -GREAT - 5, "z": -GREAT}, 2, 4))
        self.assertEqual([4], change.choices({"y": 4, "z": GREAT}, 2, 4))
        self.assertEqual([2], change.choices({"y": -GREAT, "z": 2}, 2, 4))
        wide = Any("x", Minus(Number(0), Times(Y, Y)), Times(Y, Times(Y, Y)))
        self.assertEqual([0, 1], wide.choices({"y": GREAT}, 0, 1))

    def test_of_its_own_name(self):
        self.assertEqual([1, 2, 3], Any("x", Minus(X, Number(1)), Plus(X, Number(1))).choices({"x": 2}, 0, 5))


class Itself(unittest.TestCase):
    def test_a_change_itself(self):
        change = Change("x")
        for low, high in RANGES:
            self.assertEqual([], change.choices({"x": low}, low, high))
        self.assertEqual([], change.named())
        self.assertEqual("x", change.shown())
        self.assertEqual("x", change.name)

    def test_each_sort_stands_under_it(self):
        self.assertIsInstance(Put("x", Y), Change)
        self.assertIsInstance(Any("x", Y, Z), Change)
        self.assertNotIsInstance(Put("x", Y), Any)
        self.assertNotIsInstance(Any("x", Y, Z), Put)

    def test_name(self):
        self.assertEqual("x", Put("x", Y).name)
        self.assertEqual("abcdefgh", Any("abcdefgh", Y, Z).name)


class Own(unittest.TestCase):
    def test_choices_are_the_asker_s_own(self):
        values = {"x": 1, "y": 2, "z": 4}
        for change in (Change("x"), Put("x", Y), Put("x", Number(9)), Any("x", Y, Z), Any("x", Z, Y)):
            told = change.choices(values, 0, 5)
            kept = list(told)
            again = change.choices(values, 0, 5)
            self.assertIs(list, type(told))
            self.assertTrue(all(type(value) is int for value in told))
            told.append(77)
            told.insert(0, 66)
            self.assertEqual(kept, again)
            self.assertEqual(kept, change.choices(values, 0, 5))
            self.assertEqual([("x", 1), ("y", 2), ("z", 4)], list(values.items()))

    def test_names_are_the_asker_s_own(self):
        for change in (Change("x"), Put("x", Plus(Y, X)), Any("x", Y, Z)):
            told = change.named()
            kept = list(told)
            again = change.named()
            self.assertIs(list, type(told))
            told.append("zz")
            self.assertEqual(kept, again)
            self.assertEqual(kept, change.named())


class Names(unittest.TestCase):
    def test_in_the_sums_alone(self):
        self.assertEqual([], Put("x", Number(1)).named())
        self.assertEqual(["y"], Put("x", Y).named())
        self.assertEqual(["x"], Put("x", Plus(X, X)).named())
        self.assertEqual(["@a", "x", "y"], Put("z", Plus(Y, Plus(X, Named("@a")))).named())
        self.assertEqual([], Any("x", Number(1), Sum()).named())
        self.assertEqual(["y", "z"], Any("x", Z, Y).named())
        self.assertEqual(["y"], Any("x", Y, Y).named())
        self.assertEqual(["z"], Any("x", Number(1), Z).named())
        self.assertEqual(["z"], Any("x", Z, Number(1)).named())
        self.assertEqual(["@a", "x", "y"], Any("z", Plus(Y, X), Plus(Y, Named("@a"))).named())


class Shown(unittest.TestCase):
    def test_of_each_sort(self):
        self.assertEqual("x = y", Put("x", Y).shown())
        self.assertEqual("x = 12", Put("x", Number(12)).shown())
        self.assertEqual("x = ( x + 1 )", Put("x", Plus(X, Number(1))).shown())
        self.assertEqual("x any 0 to y", Any("x", Number(0), Y).shown())
        self.assertEqual("x any ( x - 1 ) to ( x + 1 )", Any("x", Minus(X, Number(1)), Plus(X, Number(1))).shown())

    def test_one_blank_between_words(self):
        for change in (Change("x"), Put("x", Plus(X, Y)), Any("x", Plus(X, Y), Z)):
            self.assertEqual(" ".join(words(change.shown())), change.shown())
            self.assertEqual(change.shown(), change.shown())


class Deeds(unittest.TestCase):
    def test_fields(self):
        when, changes = Less(X, Y), (Put("x", Y), Any("y", X, Y))
        deed = Deed("go", when, changes)
        self.assertEqual("go", deed.called)
        self.assertIs(when, deed.when)
        self.assertIs(tuple, type(deed.changes))
        self.assertEqual(changes, deed.changes)

    def test_without_changes(self):
        deed, other = Deed("rest", Saying(), ()), Deed("go", Saying(), (Put("x", Y),))
        self.assertEqual(("rest", ()), (deed.called, deed.changes))
        self.assertEqual(("go", 1), (other.called, len(other.changes)))


if __name__ == "__main__":
    unittest.main()
