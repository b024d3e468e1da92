"""Point 14, the fields of a tie, and point 2 of what is told."""

import itertools
import unittest

from nearerwork.machinetexts import read_machine, shown_machine
from nearerwork.phrases import read_saying, read_sum
from nearerwork.ties import Tie, answers, stands_for, tied

FAR = read_machine(
    "name x from 0 to 5 at 0 ; name n from 0 to 2 at 1 ; deed add when x < 5 do x = ( x + 1 ) ; "
    "deed addall when yes do x any x to 5 ; deed turn when n < 2 do n any 0 to 2 , x = n ; deed never when [ not yes ]")
NEAR = read_machine(
    "name x from 0 to 3 at 0 ; name y from 0 to 2 at 0 ; deed into when yes do x = ( x + 1 ) ; "
    "deed ink when yes do y = ( y + 1 ) ; deed i when yes do y = 0 ; deed quiet when yes do x = 0 ; "
    "deed nothing when yes")
TABLE = (("into", "add"), ("ink", "addall"), ("i", "turn"), ("quiet", None), ("nothing", "never"))
FAR_ROOMS = list(itertools.product(range(6), range(3)))
NEAR_ROOMS = list(itertools.product(range(4), range(3)))
SAYINGS = {
    "yes": lambda fx, fn, x, y: True,
    "[ not yes ]": lambda fx, fn, x, y: False,
    "@x = x": lambda fx, fn, x, y: fx == x,
    "x = @x": lambda fx, fn, x, y: fx == x,
    "x < @x": lambda fx, fn, x, y: x < fx,
    "@x < x": lambda fx, fn, x, y: fx < x,
    "@n <= y": lambda fx, fn, x, y: fn <= y,
    "[ @x = ( x + y ) and @n != y ]": lambda fx, fn, x, y: fx == x + y and fn != y,
    "( @x + @n ) < ( x * y )": lambda fx, fn, x, y: fx + fn < x * y,
    "x = y": lambda fx, fn, x, y: x == y,
    "@x = @n": lambda fx, fn, x, y: fx == fn,
}


def made(saying, table=TABLE):
    return Tie(read_saying(saying), table, read_sum("0"))


def told_by_point_14(saying, far_rooms, called, room):
    far_called = dict(TABLE)[called]
    found = []
    for one in FAR_ROOMS:
        if far_called is None:
            reached = one in far_rooms
        else:
            reached = any(one in FAR.behind(far_room, far_called) for far_room in far_rooms)
        if reached and SAYINGS[saying](*one, *room):
            found.append(one)
    return found


class Fields(unittest.TestCase):
    def test_fields(self):
        saying, falling = read_saying("@x = x"), read_sum("( 3 - x )")
        tie = Tie(saying, TABLE, falling)
        self.assertIs(saying, tie.saying)
        self.assertEqual(TABLE, tie.table)
        self.assertIs(tuple, type(tie.table))
        self.assertIs(falling, tie.falling)


class StandsFor(unittest.TestCase):
    def test_each_deed(self):
        for called, far_called in TABLE:
            self.assertEqual(far_called, stands_for(TABLE, called))

    def test_names_that_begin_alike(self):
        names = ("a", "aa", "aaa", "aaaa", "ab", "b")
        for order in itertools.permutations(names):
            table = tuple((called, f"x{called}") for called in order)
            for called in names:
                self.assertEqual(f"x{called}", stands_for(table, called))

    def test_quiet_beside_others(self):
        table = (("go", None), ("gone", "go"), ("g", None), ("none", "gone"))
        self.assertIs(None, stands_for(table, "go"))
        self.assertEqual("go", stands_for(table, "gone"))
        self.assertIs(None, stands_for(table, "g"))

    def test_a_deed_that_stands_for_one_called_so(self):
        table = (("one", "other"), ("other", "one"))
        self.assertEqual("other", stands_for(table, "one"))
        self.assertEqual("one", stands_for(table, "other"))

    def test_several_for_the_same(self):
        table = (("a", "x"), ("b", "x"), ("c", None), ("d", "x"))
        self.assertEqual(["x", "x", None, "x"], [stands_for(table, called) for called in "abcd"])


class Tied(unittest.TestCase):
    def test_by_the_values_of_both(self):
        for saying, asked in SAYINGS.items():
            for far_room, room in itertools.product(FAR_ROOMS, NEAR_ROOMS):
                with self.subTest(saying=saying, far_room=far_room, room=room):
                    self.assertIs(asked(*far_room, *room), tied(FAR, NEAR, made(saying), far_room, room))

    def test_a_name_that_both_have(self):
        tie = made("x < @x")
        self.assertIs(True, tied(FAR, NEAR, tie, (2, 0), (1, 0)))
        self.assertIs(False, tied(FAR, NEAR, tie, (1, 0), (2, 0)))

    def test_machines_without_names(self):
        empty = read_machine("")
        self.assertIs(True, tied(empty, empty, made("yes", ()), (), ()))
        self.assertIs(False, tied(empty, empty, made("1 < 1", ()), (), ()))
        self.assertIs(True, tied(empty, NEAR, made("x = 1"), (), (1, 2)))
        self.assertIs(True, tied(FAR, empty, made("@x = 1"), (1, 2), ()))

    def test_nothing_is_changed(self):
        tie = made("@x = x")
        shown = (shown_machine(FAR), shown_machine(NEAR), tie.saying.shown(), tie.table)
        for number in range(2):
            self.assertIs(True, tied(FAR, NEAR, tie, (1, 0), (1, 2)))
            self.assertIs(False, tied(FAR, NEAR, tie, (0, 1), (1, 2)))
        self.assertEqual(shown, (shown_machine(FAR), shown_machine(NEAR), tie.saying.shown(), tie.table))


class Answers(unittest.TestCase):
    def test_each_deed_by_point_14(self):
        choices = ([], FAR_ROOMS[:1], FAR_ROOMS[4:6], FAR_ROOMS[3:14:3], FAR_ROOMS[-2:], FAR_ROOMS)
        for saying in SAYINGS:
            tie = made(saying)
            for (called, far_called), far_rooms, room in itertools.product(TABLE, choices, NEAR_ROOMS):
                asked = told_by_point_14(saying, far_rooms, called, room)
                self.assertEqual(asked, answers(FAR, NEAR, tie, far_rooms, called, room))

    def test_an_other_deed(self):
        self.assertEqual([(2, 1)], answers(FAR, NEAR, made("yes"), [(1, 1)], "into", (1, 0)))
        self.assertEqual([(2, 1)], answers(FAR, NEAR, made("@x = x"), [(0, 0), (1, 1)], "into", (2, 0)))
        self.assertEqual([], answers(FAR, NEAR, made("@x = x"), [(1, 1)], "into", (1, 0)))
        self.assertEqual([], answers(FAR, NEAR, made("yes"), [(5, 1)], "into", (1, 0)))
        self.assertEqual([], answers(FAR, NEAR, made("yes"), FAR_ROOMS, "nothing", (1, 0)))

    def test_a_quiet_deed(self):
        self.assertEqual([(1, 1)], answers(FAR, NEAR, made("yes"), [(1, 1)], "quiet", (0, 0)))
        self.assertEqual([(0, 0), (0, 2)], answers(FAR, NEAR, made("@x = x"), [(0, 2), (1, 1), (0, 0)], "quiet", (0, 0)))
        self.assertEqual([], answers(FAR, NEAR, made("@x = x"), [(1, 1)], "quiet", (0, 0)))

    def test_tied_to_the_room_of_the_step(self):
        for room in NEAR_ROOMS:
            told = answers(FAR, NEAR, made("@x = x"), [(0, 0)], "ink", room)
            self.assertEqual([(room[0], 0)], told)

    def test_the_deed_counts_by_its_whole_name(self):
        self.assertEqual([(2, 1)], answers(FAR, NEAR, made("yes"), [(1, 1)], "into", (0, 0)))
        self.assertEqual([(value, 1) for value in range(1, 6)], answers(FAR, NEAR, made("yes"), [(1, 1)], "ink", (0, 0)))
        self.assertEqual([(1, 0), (1, 1), (1, 2)], answers(FAR, NEAR, made("yes"), [(3, 1)], "i", (0, 0)))

    def test_lists_and_tuples_in_any_order_some_twice(self):
        for called, far_called in TABLE:
            for far_rooms in itertools.permutations(((0, 1), (2, 0), (1, 2))):
                asked = told_by_point_14("yes", far_rooms, called, (0, 0))
                for given in (list(far_rooms), far_rooms, list(far_rooms) * 2, far_rooms + far_rooms[:1],
                              far_rooms[::-1] + far_rooms):
                    kept = list(given)
                    self.assertEqual(asked, answers(FAR, NEAR, made("yes"), given, called, (0, 0)))
                    self.assertEqual(kept, list(given))

    def test_each_once_though_several_lead_to_it(self):
        self.assertEqual([(value, 0) for value in range(3, 6)],
                         answers(FAR, NEAR, made("yes"), [(3, 0), (4, 0), (5, 0)], "ink", (0, 0)))

    def test_from_none(self):
        for called, far_called in TABLE:
            self.assertEqual([], answers(FAR, NEAR, made("yes"), [], called, (0, 0)))
            self.assertEqual([], answers(FAR, NEAR, made("yes"), (), called, (0, 0)))

    def test_the_asker_s_own(self):
        given = [(0, 0), (1, 1), (2, 2)]
        for called, far_called in TABLE:
            told = answers(FAR, NEAR, made("yes"), given, called, (0, 0))
            kept = list(told)
            again = answers(FAR, NEAR, made("yes"), given, called, (0, 0))
            self.assertIs(list, type(told))
            self.assertIsNot(given, told)
            told.append(None)
            told[0] = 7
            self.assertEqual(kept, again)
            self.assertEqual(kept, answers(FAR, NEAR, made("yes"), given, called, (0, 0)))
            self.assertEqual([(0, 0), (1, 1), (2, 2)], given)


if __name__ == "__main__":
    unittest.main()
