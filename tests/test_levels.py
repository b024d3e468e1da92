"""Point 18, with points 3 and 17 as far as it rests on them, and point 2 of what is told."""

import unittest

from nearerwork.falling import not_falling
from nearerwork.levels import levels_of
from nearerwork.machinetexts import read_machine, shown_machine
from nearerwork.phrases import read_sum
from nearerwork.sayings import Saying
from nearerwork.ties import Tie
from nearerwork.walking import rooms_of
from tests.helper import end_of, go_on, rooms_come_to, some_pairs, steps_of

X = "name x from 0 to 5 at 5"
DOWN = f"{X} ; deed down when yes do x = ( x - 1 )"
NAMES = " ; ".join(f"name {name} from 0 to 5 at 5" for name in "xyz")
# Counts down through all 216 rooms, one behind the other.
ODOMETER = (f"{NAMES} ; deed ones when yes do z = ( z - 1 ) ; deed tens when z = 0 do y = ( y - 1 ) , z = 5 ; "
            "deed more when [ y = 0 and z = 0 ] do x = ( x - 1 ) , y = 5 , z = 5")
PAIRS = some_pairs(300) + some_pairs(200, rooms=4)


def quiet_behind(machine, table, room):
    quiet = [called for called, stood_for in table if stood_for is None]
    return [behind for called, behind in steps_of(machine, room) if called in quiet]


def longest(machine, table, room, trail=()):
    """The second reckoning: the most quiet steps from a room, None if there is no such number."""
    if room in trail:
        return None
    most = 0
    for behind in quiet_behind(machine, table, room):
        further = longest(machine, table, behind, trail + (room,))
        if further is None:
            return None
        most = max(most, further + 1)
    return most


class Rings(unittest.TestCase):
    def assert_ring(self, machine, table):
        """What is told, held against point 18."""
        told = levels_of(machine, table)
        self.assertIs(tuple, type(told))
        self.assertEqual(("ring", 3), (told[0], len(told)))
        run, ring = told[1:]
        self.assertEqual((tuple, tuple), (type(run), type(ring)))
        self.assertTrue(ring)
        self.assertTrue(go_on(machine, run + ring))
        self.assertEqual(end_of(machine, run), ring[-1][1])
        self.assertEqual({None}, {dict(table)[called] for called, room in ring})
        self.assertEqual(told, levels_of(machine, table))
        return told


class Levels(Rings):
    def assert_levels(self, asked, text, table):
        machine = read_machine(text)
        self.assertEqual(("levels", asked), levels_of(machine, table))
        self.assertEqual(text, shown_machine(machine))

    def test_no_quiet_deed(self):
        self.assert_levels([0], "", ())
        self.assert_levels([0], X, ())
        self.assert_levels([0] * 6, DOWN, (("down", "go"),))
        self.assert_levels([0], "deed go when yes", (("go", "go"),))

    def test_a_chain(self):
        self.assert_levels([5, 4, 3, 2, 1, 0], DOWN, (("down", None),))
        self.assert_levels([3, 2, 1, 0], DOWN.replace("at 5", "at 3"), (("down", None),))
        self.assert_levels([0], DOWN.replace("at 5", "at 0"), (("down", None),))

    def test_a_chain_that_is_broken(self):
        text = f"{X} ; deed down when x != 3 do x = ( x - 1 ) ; deed work when x = 3 do x = 2"
        self.assert_levels([2, 1, 0, 2, 1, 0], text, (("down", None), ("work", "go")))
        self.assert_levels([5, 4, 3, 2, 1, 0], text, (("down", None), ("work", None)))
        self.assert_levels([0, 0, 1, 0, 0, 0], text, (("down", "go"), ("work", None)))

    def test_chains_of_different_lengths_that_come_together(self):
        text = f"{X} ; deed down when yes do x = ( x - 1 ) ; deed leap when 1 < x do x = 0"
        # As they are met: 5, 4, 0, 3, 2, 1.
        self.assert_levels([5, 4, 0, 3, 2, 1], text, (("down", None), ("leap", None)))
        self.assert_levels([1, 1, 0, 1, 1, 0], text, (("down", "go"), ("leap", None)))
        text = f"{X} ; deed leap when 1 < x do x = 0 ; deed down when yes do x = ( x - 1 )"
        self.assert_levels([5, 0, 4, 3, 2, 1], text, (("leap", None), ("down", None)))

    def test_the_greatest_number_counts(self):
        text = f"{X} ; deed a when x = 5 do x any 0 to 4 ; deed b when [ 0 < x and x < 3 ] do x = ( x - 1 )"
        # As they are met: 5, 0, 1, 2, 3, 4.
        self.assert_levels([3, 0, 1, 2, 0, 0], text, (("a", None), ("b", None)))

    def test_steps_that_are_not_quiet_may_go_round(self):
        text = f"{X} ; deed down when yes do x = ( x - 1 ) ; deed back when x = 0 do x = 5"
        self.assert_levels([5, 4, 3, 2, 1, 0], text, (("down", None), ("back", "go")))
        self.assert_levels([0, 0, 0, 0, 0, 1], text, (("down", "go"), ("back", None)))

    def test_the_order_is_that_in_which_the_rooms_are_met(self):
        text = ("name x from 0 to 2 at 1 ; deed up when x = 1 do x = 2 ; deed down when x = 1 do x = 0 ; "
                "deed over when x = 2 do x = 0")
        self.assert_levels([2, 1, 0], text, (("up", None), ("down", None), ("over", None)))
        self.assertEqual([(1,), (2,), (0,)], [room for room, run in rooms_of(read_machine(text))])

    def test_a_ring_of_one_step(self):
        for text in ("deed go when yes", f"{X} ; deed go when yes"):
            machine = read_machine(text)
            self.assertEqual(("ring", (), (("go", machine.first()),)), self.assert_ring(machine, (("go", None),)))

    def test_a_ring_of_several(self):
        text = f"{X} ; deed down when 2 < x do x = ( x - 1 ) ; deed back when x = 2 do x = 4"
        machine = read_machine(text)
        run, ring = self.assert_ring(machine, (("down", None), ("back", None)))[1:]
        self.assertEqual(3, len(ring))
        self.assertEqual({(4,), (3,), (2,)}, {room for called, room in ring})
        self.assertEqual(("levels", [3, 2, 1, 0]), levels_of(machine, (("down", None), ("back", "go"))))

    def test_ahead_of_a_ring_other_steps(self):
        text = f"{X} ; deed work when 3 < x do x = ( x - 1 ) ; deed a when x = 3 do x = 1 ; deed b when x = 1 do x = 3"
        machine = read_machine(text)
        run, ring = self.assert_ring(machine, (("work", "go"), ("a", None), ("b", None)))[1:]
        self.assertEqual({(3,), (1,)}, {room for called, room in ring})
        self.assertEqual((("work", (4,)), ("work", (3,))), run[:2])
        self.assertEqual(2, len(ring))

    def test_ahead_of_a_ring_quiet_steps_and_others(self):
        text = (f"{X} ; deed still when x = 5 do x = 4 ; deed work when x = 4 do x = 3 ; deed hush when x = 3 do x = 2 ; "
                "deed a when x = 2 do x = 1 ; deed b when x = 1 do x = 0 ; deed c when x = 0 do x = 2")
        table = (("still", None), ("work", "go"), ("hush", None), ("a", None), ("b", None), ("c", None))
        run, ring = self.assert_ring(read_machine(text), table)[1:]
        self.assertEqual({(2,), (1,), (0,)}, {room for called, room in ring})
        self.assertEqual(("levels", [1, 0, 3, 2, 1, 0]), levels_of(read_machine(text), table[:5] + (("c", "go"),)))

    def test_a_ring_beside_rooms_with_levels(self):
        text = (f"{X} ; deed down when 2 < x do x = ( x - 1 ) ; deed leap when x = 5 do x = 0 ; "
                "deed turn when x < 2 do x = ( 1 - x )")
        table = (("down", None), ("leap", None), ("turn", None))
        run, ring = self.assert_ring(read_machine(text), table)[1:]
        self.assertEqual({(0,), (1,)}, {room for called, room in ring})

    def test_a_ring_not_all_of_whose_steps_are_quiet(self):
        text = f"{X} ; deed down when yes do x = ( x - 1 ) ; deed up when x = 0 do x = 5"
        self.assertEqual("levels", levels_of(read_machine(text), (("down", None), ("up", "go")))[0])
        self.assertEqual("levels", levels_of(read_machine(text), (("down", "go"), ("up", None)))[0])
        self.assert_ring(read_machine(text), (("down", None), ("up", None)))

    def test_a_ring_in_rooms_that_are_not_come_to(self):
        text = f"{X} ; deed down when 3 < x do x = ( x - 1 ) ; deed round when x < 3"
        self.assert_levels([2, 1, 0], text, (("down", None), ("round", None)))
        self.assert_ring(read_machine(text.replace("3 < x", "2 < x")), (("down", None), ("round", None)))
        self.assert_ring(read_machine(text.replace("at 5", "at 2")), (("down", None), ("round", None)))

    def test_216_rooms(self):
        table = (("ones", None), ("tens", None), ("more", None))
        machine = read_machine(ODOMETER)
        self.assertEqual(("levels", list(range(215, -1, -1))), levels_of(machine, table))
        self.assertEqual(("levels", [room[2] for room, run in rooms_of(machine)]),
                         levels_of(machine, (("ones", None), ("tens", "go"), ("more", "go"))))
        back = f"{ODOMETER} ; deed back when ( x + ( y + z ) ) = 0 do x = 5 , y = 5 , z = 5"
        told = self.assert_ring(read_machine(back), table + (("back", None),))
        self.assertEqual(216, len(told[2]))

    def test_216_rooms_with_many_steps(self):
        text = (f"{NAMES} ; deed a when yes do x any 0 to ( x - 1 ) , y any 0 to 5 , z any 0 to 5 ; "
                "deed b when yes do y any 0 to ( y - 1 ) , z any 0 to 5 ; deed c when yes do z any 0 to ( z - 1 )")
        machine = read_machine(text)
        table = (("a", None), ("b", None), ("c", None))
        self.assertEqual(("levels", [36 * x + 6 * y + z for (x, y, z), run in rooms_of(machine)]), levels_of(machine, table))
        self.assert_ring(read_machine(f"{text} ; deed d when yes do x any 0 to 5 , y any 0 to 5"), table + (("d", None),))

    def test_the_asker_s_own(self):
        machine = read_machine(DOWN)
        told = levels_of(machine, (("down", None),))
        self.assertEqual((tuple, str, list), (type(told), type(told[0]), type(told[1])))
        told[1].append(7)
        told[1][0] = None
        self.assertEqual(("levels", [5, 4, 3, 2, 1, 0]), levels_of(machine, (("down", None),)))


class SecondReckoning(Rings):
    def test_the_same_is_told(self):
        found = {"levels": 0, "ring": 0}
        for far, near, tie in PAIRS:
            asked = [longest(near, tie.table, room) for room, run in rooms_of(near)]
            with self.subTest(near=shown_machine(near), table=tie.table):
                found["ring" if None in asked else "levels"] += 1
                if None in asked:
                    self.assert_ring(near, tie.table)
                else:
                    self.assertEqual(("levels", asked), levels_of(near, tie.table))
                self.assertEqual(len(rooms_come_to(near)), len(asked))
        self.assertTrue(min(found.values()) > 100)

    def test_where_the_sum_falls_there_are_levels(self):
        ties = [(near, tie) for far, near, tie in PAIRS]
        for far, near, tie in PAIRS:
            if "w" in [place[0] for place in near.places]:
                ties.append((near, Tie(tie.saying, tie.table, read_sum("w"))))
        for text, falling in ((DOWN, "x"), (DOWN, "( x * 3 )"), (ODOMETER, "( ( 36 * x ) + ( ( 6 * y ) + z ) )")):
            machine = read_machine(text)
            ties.append((machine, Tie(Saying(), tuple((deed.called, None) for deed in machine.deeds), read_sum(falling))))
        looked = 0
        for near, tie in ties:
            if not_falling(near, tie) is None:
                told = levels_of(near, tie.table)
                self.assertEqual("levels", told[0])
                for (room, run), level in zip(rooms_of(near), told[1]):
                    if quiet_behind(near, tie.table, room):
                        looked += 1
                        self.assertTrue(level <= tie.falling.worth(near.values_in(room)))
                    else:
                        self.assertEqual(0, level)
        self.assertTrue(looked > 250)

    def test_where_there_is_a_ring_no_sum_falls(self):
        for far, near, tie in PAIRS:
            if levels_of(near, tie.table)[0] == "ring":
                self.assertIsNot(None, not_falling(near, tie))

    def test_each_level_falls_with_each_quiet_step(self):
        for far, near, tie in PAIRS:
            told = levels_of(near, tie.table)
            if told[0] == "levels":
                levels = dict(zip([room for room, run in rooms_of(near)], told[1]))
                for room in levels:
                    self.assertTrue(all(levels[behind] < levels[room] for behind in quiet_behind(near, tie.table, room)))


if __name__ == "__main__":
    unittest.main()
