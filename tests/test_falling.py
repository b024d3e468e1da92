"""Point 17, and point 2 of what is told."""

import unittest

from nearerwork.falling import not_falling
from nearerwork.machinetexts import read_machine, shown_machine
from nearerwork.phrases import read_sum
from nearerwork.sayings import Saying
from nearerwork.tietexts import shown_tie
from nearerwork.ties import Tie
from nearerwork.walking import rooms_of
from tests.helper import go_on, some_pairs, steps_of

X = "name x from 0 to 3 at 3"
DOWN = f"{X} ; deed down when yes do x = ( x - 1 )"
PAIRS = some_pairs(300) + some_pairs(150, rooms=4)


def told(near_text, table, falling):
    return not_falling(read_machine(near_text), Tie(Saying(), table, read_sum(falling)))


def told_by_point_17(near, tie):
    quiet = [called for called, stood_for in tie.table if stood_for is None]
    names = [place[0] for place in near.places]
    for room, run in rooms_of(near):
        for called, behind in steps_of(near, room):
            if called in quiet:
                worth = tie.falling.worth(dict(zip(names, behind)))
                if not 0 <= worth < tie.falling.worth(dict(zip(names, room))):
                    return (run, called, behind)
    return None


class Falling(unittest.TestCase):
    def test_no_quiet_deed(self):
        for falling in ("0", "x", "( 0 - x )", "7"):
            self.assertIs(None, told(DOWN, (("down", "down"),), falling))
            self.assertIs(None, told(X, (), falling))
        self.assertIs(None, told("", (), "0"))

    def test_it_falls(self):
        for falling in ("x", "( x + 5 )", "( x * x )", "( 2 * x )", "( ( x * 9 ) - x )"):
            self.assertIs(None, told(DOWN, (("down", None),), falling))

    def test_alike(self):
        self.assertEqual(((), "down", (2,)), told(DOWN, (("down", None),), "0"))
        self.assertEqual(((), "down", (2,)), told(DOWN, (("down", None),), "99"))

    def test_greater(self):
        self.assertEqual(((), "down", (2,)), told(DOWN, (("down", None),), "( 3 - x )"))
        self.assertEqual(((), "down", (2,)), told(DOWN, (("down", None),), "( 5 - x )"))

    def test_below_0(self):
        # Falls by one with each step: 2, 1, 0, then below.
        self.assertEqual(((("down", (2,)), ("down", (1,))), "down", (0,)), told(DOWN, (("down", None),), "( x - 1 )"))
        self.assertEqual(((("down", (2,)),), "down", (1,)), told(DOWN, (("down", None),), "( x - 2 )"))
        self.assertEqual(((), "down", (2,)), told(DOWN, (("down", None),), "( x - 3 )"))
        self.assertEqual(((), "down", (2,)), told(DOWN, (("down", None),), "( x - 9 )"))

    def test_just_0(self):
        self.assertIs(None, told(DOWN, (("down", None),), "( x - 0 )"))
        self.assertIs(None, told(f"{X} ; deed down when x = 3 do x = 1", (("down", None),), "( x - 1 )"))

    def test_by_one_is_enough_and_it_may_fall_by_more(self):
        self.assertIs(None, told(f"{X} ; deed down when x = 3 do x = 0", (("down", None),), "x"))
        self.assertIs(None, told(f"{X} ; deed down when x = 3 do x = 2", (("down", None),), "x"))

    def test_a_step_to_the_same_room(self):
        near = f"{X} ; deed down when yes do x = ( x - 1 ) ; deed rest when x = 1"
        table = (("down", None), ("rest", None))
        self.assertEqual(((("down", (2,)), ("down", (1,))), "rest", (1,)), told(near, table, "x"))
        self.assertIs(None, told(near, (("down", None), ("rest", "rest")), "x"))
        self.assertEqual(((), "go", ()), told("deed go when yes", (("go", None),), "5"))

    def test_only_quiet_steps_count(self):
        near = f"{X} ; deed down when yes do x = ( x - 1 ) ; deed up when yes do x = ( x + 1 )"
        self.assertIs(None, told(near, (("down", None), ("up", "go")), "x"))
        self.assertEqual(((("down", (2,)),), "up", (3,)), told(near, (("down", None), ("up", None)), "x"))
        self.assertEqual(((), "down", (2,)), told(near, (("down", None), ("up", "go")), "( 3 - x )"))
        self.assertIs(None, told(near, (("down", "go"), ("up", None)), "( 3 - x )"))

    def test_a_deed_for_one_called_none_of_these(self):
        self.assertIs(None, told(DOWN, (("down", "up"),), "0"))

    def test_the_rooms_as_they_are_met(self):
        # 0 is met by the first deed, ahead of 2: so its step is told, though 2 is nearer to 3.
        near = f"{X} ; deed b when x = 3 do x = 0 ; deed a when x = 3 do x = 2 ; deed rest when x < 3"
        table = (("b", "go"), ("a", "go"), ("rest", None))
        self.assertEqual(((("b", (0,)),), "rest", (0,)), told(near, table, "x"))

    def test_the_deeds_in_order(self):
        near = f"{X} ; deed z when yes do x = ( x - 1 ) ; deed a when yes do x = ( x - 1 )"
        self.assertEqual(((), "z", (2,)), told(near, (("z", None), ("a", None)), "0"))
        self.assertEqual(((), "a", (2,)), told(near, (("z", "go"), ("a", None)), "0"))

    def test_the_rooms_behind_rising(self):
        near = f"{X} ; deed go when x = 3 do x any 0 to 3"
        self.assertEqual(((), "go", (0,)), told(near, (("go", None),), "0"))
        self.assertEqual(((), "go", (3,)), told(near, (("go", None),), "x"))
        self.assertEqual(((), "go", (0,)), told(near, (("go", None),), "( x - 1 )"))
        # 4, 1, 0, 1 by the values from 0 to 3: less than in 3 is it in 2 alone.
        self.assertEqual(((), "go", (0,)), told(near, (("go", None),), "( ( x - 2 ) * ( x - 2 ) )"))
        near = f"{X} ; deed go when x = 3 do x any 2 to 3"
        self.assertEqual(((), "go", (3,)), told(near, (("go", None),), "( ( x - 2 ) * ( x - 2 ) )"))

    def test_a_room_is_looked_at_whole_ahead_of_the_next(self):
        near = f"{X} ; deed go when 1 < x do x = ( x - 1 ) ; deed rest when x = 3"
        # From 2 on the sum is below 0, but the step from 3 to 3 comes ahead of it.
        self.assertEqual(((), "rest", (3,)), told(near, (("go", None), ("rest", None)), "( x - 2 )"))
        self.assertEqual(((("go", (2,)),), "go", (1,)), told(near, (("go", None), ("rest", "on")), "( x - 2 )"))

    def test_only_rooms_that_are_come_to_count(self):
        near = "name x from 0 to 5 at 2 ; deed down when yes do x = ( x - 1 ) ; deed up when 2 < x do x = ( x + 1 )"
        self.assertIs(None, told(near, (("down", None), ("up", None)), "x"))
        near = near.replace("at 2", "at 3")
        self.assertEqual(((), "up", (4,)), told(near, (("down", None), ("up", None)), "x"))

    def test_several_names(self):
        near = ("name x from 0 to 2 at 2 ; name y from 0 to 2 at 0 ; deed a when 0 < x do x = ( x - 1 ) , y any 0 to 2 ; "
                "deed b when yes do y = ( y - 1 )")
        table = (("a", None), ("b", None))
        self.assertIs(None, told(near, table, "( ( 3 * x ) + y )"))
        # (1, 2) is worth as much as (2, 0) by two of x and one of y.
        self.assertEqual(((), "a", (1, 2)), told(near, table, "( ( 2 * x ) + y )"))
        self.assertEqual(((("a", (1, 1)),), "b", (1, 0)), told(near, (("a", "go"), ("b", None)), "x"))


class SecondReckoning(unittest.TestCase):
    def test_the_same_is_told(self):
        found = {True: 0, False: 0}
        for far, near, tie in PAIRS:
            asked = told_by_point_17(near, tie)
            shown = (shown_machine(near), shown_tie(tie), tie.table)
            with self.subTest(near=shown[0], tie=shown[1]):
                found[asked is None] += 1
                self.assertEqual(asked, not_falling(near, tie))
                self.assertEqual(asked, not_falling(near, tie))
                self.assertEqual(shown, (shown_machine(near), shown_tie(tie), tie.table))
                if asked is not None:
                    self.assertIs(tuple, type(not_falling(near, tie)))
                    self.assertTrue(go_on(near, asked[0] + (asked[1:],)))
        self.assertTrue(min(found.values()) > 100)


if __name__ == "__main__":
    unittest.main()
