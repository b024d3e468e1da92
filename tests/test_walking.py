"""Points 11 and 12, and point 2 of what they tell."""

import itertools
import unittest

from nearerwork.machines import Machine
from nearerwork.machinetexts import read_machine, shown_machine
from nearerwork.walking import is_run, rooms_of, unkept

X = "name x from 0 to 3 at 1"
# Up and down, and a leap from 1 alone.
LINE = f"{X} ; deed up when x < 3 do x = ( x + 1 ) ; deed down when yes do x = ( x - 1 ) ; deed leap when x = 1 do x = 3"
# A room is come to by several ways: by either deed first.
GRID = ("name x from 0 to 2 at 0 ; name y from 0 to 2 at 0 ; "
        "deed right when yes do x = ( x + 1 ) ; deed up when yes do y = ( y + 1 )")
FREE = "name x from 0 to 2 at 1 ; name y from 0 to 1 at 0 ; deed fall when yes do y any 0 to 1 , x any 0 to x"
STILL = f"{X} ; deed rest when yes"
MACHINES = (
    "", X, STILL, LINE, GRID, FREE, "deed go when yes", "deed go when [ not yes ]",
    f"{X} ; deed go when yes do x any 0 to 9",
    "name x from 0 to 5 at 3 ; name y from 0 to 5 at 0 ; deed a when x < y do x = y , y = x ; "
    "deed b when y < 5 do y any ( y + 1 ) to ( y + 2 ) ; deed c when [ not x = 0 ] do x = ( x - 1 ) , y = 0",
    "name a from 0 to 1 at 0 ; name b from 0 to 1 at 0 ; name c from 0 to 1 at 0 ; deed p when yes do a = ( 1 - a ) ; "
    "deed q when a = 1 do b = ( 1 - b ) ; deed r when [ a = 0 and b = 1 ] do c any 0 to 1",
)


def closed_over(machine):
    """All rooms that are come to, by widening all that are known."""
    known = {machine.first()}
    while True:
        wider = known | {
            room for one in known for deed in machine.deeds for room in machine.behind(one, deed.called)}
        if wider == known:
            return known
        known = wider


def runs_of_length(machine, length):
    """All runs of a length, as the deeds and then the rooms are gone through in their order."""
    runs = [((), machine.first())]
    for step in range(length):
        runs = [
            (run + ((deed.called, behind),), behind)
            for run, room in runs for deed in machine.deeds for behind in machine.behind(room, deed.called)]
    return runs


class IsRun(unittest.TestCase):
    def test_the_empty_run(self):
        for text in MACHINES:
            self.assertIs(True, is_run(read_machine(text), ()))

    def test_runs(self):
        line = read_machine(LINE)
        for run in (
            (("up", (2,)),), (("down", (0,)),), (("leap", (3,)),),
            (("up", (2,)), ("up", (3,))), (("leap", (3,)), ("down", (2,)), ("down", (1,)), ("leap", (3,))),
        ):
            self.assertIs(True, is_run(line, run), run)

    def test_one_step_spoiled(self):
        line = read_machine(LINE)
        for run in (
            (("fly", (2,)),), (("", (2,)),), (("x", (2,)),), (("u", (2,)),), (("ups", (2,)),),
            (("up", (1,)),), (("up", (3,)),), (("up", ()),), (("up", (2, 2)),), (("down", (2,)),), (("up", (9,)),),
            (("up", (2,)), ("leap", (3,))), (("up", (3,)), ("down", (2,))),
            (("up", (2,)), ("up", (3,)), ("up", (3,))), (("up", (2,)), ("up", (3,)), ("up", (4,))),
            (("down", (0,)), ("down", (-1,))), (("up", (2,)), ("down", (2,))),
        ):
            self.assertIs(False, is_run(line, run), run)

    def test_a_step_left_out(self):
        line = read_machine(LINE)
        run = (("leap", (3,)), ("down", (2,)), ("down", (1,)), ("down", (0,)))
        self.assertIs(True, is_run(line, run))
        for place in range(3):
            self.assertIs(False, is_run(line, run[:place] + run[place + 1:]))
        self.assertIs(True, is_run(line, run[:3]))

    def test_each_room_is_by_its_own_deed(self):
        machine = read_machine(f"{X} ; deed a when yes do x any 0 to 1 ; deed b when yes do x any 2 to 3")
        for called, values in (("a", (0, 1)), ("b", (2, 3))):
            for value in range(4):
                self.assertIs(value in values, is_run(machine, ((called, (value,)),)))

    def test_steps_to_the_same_room(self):
        still = read_machine(STILL)
        for number in range(5):
            self.assertIs(True, is_run(still, (("rest", (1,)),) * number))
        self.assertIs(False, is_run(still, (("rest", (2,)),)))

    def test_without_names_or_deeds(self):
        self.assertIs(False, is_run(read_machine(""), (("go", ()),)))
        self.assertIs(False, is_run(read_machine(X), (("go", (1,)),)))
        self.assertIs(True, is_run(read_machine("deed go when yes"), (("go", ()), ("go", ()))))
        self.assertIs(False, is_run(read_machine("deed go when yes"), (("go", (0,)),)))

    def test_the_first_room_is_where_it_starts(self):
        line = read_machine(LINE)
        for value in range(4):
            self.assertIs(value in (0, 2, 3), any(is_run(line, ((called, (value,)),)) for called in ("up", "down", "leap")))

    def test_all_short_tuples_of_steps(self):
        for text in (LINE, FREE):
            machine = read_machine(text)
            places = [range(-1, high + 2) for name, low, high, start in machine.places]
            steps = list(itertools.product(
                [deed.called for deed in machine.deeds] + ["fly"], itertools.product(*places)))
            for length in range(3):
                asked = {run for run, room in runs_of_length(machine, length)}
                for run in itertools.product(steps, repeat=length):
                    self.assertIs(run in asked, is_run(machine, run))


class RoomsOf(unittest.TestCase):
    def test_the_machine_without_words(self):
        self.assertEqual([((), ())], rooms_of(read_machine("")))
        self.assertEqual([((), ())], rooms_of(read_machine("deed go when yes")))

    def test_the_first_room_alone(self):
        self.assertEqual([((1,), ())], rooms_of(read_machine(X)))
        self.assertEqual([((1,), ())], rooms_of(read_machine(STILL)))

    def test_deed_by_deed(self):
        self.assertEqual([
            ((1,), ()),
            ((2,), (("up", (2,)),)),
            ((0,), (("down", (0,)),)),
            ((3,), (("leap", (3,)),)),
        ], rooms_of(read_machine(LINE)))

    def test_the_deeds_in_the_machine_s_order(self):
        text = f"{X} ; deed z when yes do x = 3 ; deed a when yes do x = 0"
        self.assertEqual([((1,), ()), ((3,), (("z", (3,)),)), ((0,), (("a", (0,)),))], rooms_of(read_machine(text)))

    def test_room_by_room_as_they_are_met(self):
        text = "name x from 0 to 5 at 0 ; deed a when x < 2 do x = ( 4 - x ) ; deed b when yes do x = ( x + 1 )"
        # 0 leads to 4 and 1; then 4, met first, leads to 5 before 1 leads to 3 and 2.
        self.assertEqual([
            ((0,), ()),
            ((4,), (("a", (4,)),)),
            ((1,), (("b", (1,)),)),
            ((5,), (("a", (4,)), ("b", (5,)))),
            ((3,), (("b", (1,)), ("a", (3,)))),
            ((2,), (("b", (1,)), ("b", (2,)))),
        ], rooms_of(read_machine(text)))

    def test_rooms_behind_are_met_rising(self):
        self.assertEqual([
            ((1, 0), ()),
            ((0, 0), (("fall", (0, 0)),)),
            ((0, 1), (("fall", (0, 1)),)),
            ((1, 1), (("fall", (1, 1)),)),
        ], rooms_of(read_machine(FREE)))

    def test_by_several_ways(self):
        right, up = "right", "up"
        self.assertEqual([
            ((0, 0), ()),
            ((1, 0), ((right, (1, 0)),)),
            ((0, 1), ((up, (0, 1)),)),
            ((2, 0), ((right, (1, 0)), (right, (2, 0)))),
            ((1, 1), ((right, (1, 0)), (up, (1, 1)))),
            ((0, 2), ((up, (0, 1)), (up, (0, 2)))),
            ((2, 1), ((right, (1, 0)), (right, (2, 0)), (up, (2, 1)))),
            ((1, 2), ((right, (1, 0)), (up, (1, 1)), (up, (1, 2)))),
            ((2, 2), ((right, (1, 0)), (right, (2, 0)), (up, (2, 1)), (up, (2, 2)))),
        ], rooms_of(read_machine(GRID)))

    def test_two_deeds_to_one_room(self):
        text = f"{X} ; deed b when yes do x = 2 ; deed a when yes do x = 2"
        self.assertEqual([((1,), ()), ((2,), (("b", (2,)),))], rooms_of(read_machine(text)))

    def test_all_rooms_each_once_with_a_run_to_it(self):
        for text in MACHINES:
            machine = read_machine(text)
            told = rooms_of(machine)
            self.assertEqual(sorted(closed_over(machine)), sorted(room for room, run in told))
            for room, run in told:
                self.assertIs(True, is_run(machine, run))
                self.assertEqual(room, run[-1][1] if run else machine.first())

    def test_the_order_is_that_of_the_shortest_and_first_runs(self):
        for text in MACHINES:
            machine = read_machine(text)
            asked, seen = [], set()
            runs = [((), machine.first())]
            # Only runs over rooms that are new go on, which leaves the first ones as they are.
            while runs:
                fresh = []
                for run, room in runs:
                    if room not in seen:
                        seen.add(room)
                        asked.append((room, run))
                        fresh.append((run, room))
                runs = [
                    (run + ((deed.called, behind),), behind)
                    for run, room in fresh for deed in machine.deeds for behind in machine.behind(room, deed.called)]
            self.assertEqual(asked, rooms_of(machine))

    def test_the_asker_s_own(self):
        for text in MACHINES:
            machine = read_machine(text)
            told = rooms_of(machine)
            kept = list(told)
            again = rooms_of(machine)
            self.assertIs(list, type(told))
            for one in told:
                self.assertEqual((tuple, tuple, tuple), (type(one), type(one[0]), type(one[1])))
                self.assertTrue(all(type(step) is tuple for step in one[1]))
            told.append(None)
            told[0] = None
            self.assertEqual(kept, again)
            self.assertEqual(kept, rooms_of(machine))
            self.assertEqual(text, shown_machine(machine))

    def test_all_216_rooms(self):
        text = " ; ".join([f"name {name} from 0 to 5 at {start}" for name, start in (("a", 5), ("b", 0), ("c", 3))] + [
            "deed go when yes do a any 0 to 5 , b any 0 to 5 , c any 0 to 5"])
        rooms = [room for room, run in rooms_of(read_machine(text))]
        asked = list(itertools.product(range(6), repeat=3))
        asked.remove((5, 0, 3))
        self.assertEqual([(5, 0, 3)] + asked, rooms)


class Unkept(unittest.TestCase):
    def assert_told(self, asked, keeps, text=LINE):
        ahead, semicolon, behind = text.partition(" ; ")
        whole = " ; ".join([ahead] + [f"keep {keep}" for keep in keeps] + [behind])
        machine = read_machine(whole)
        with self.subTest(text=whole):
            self.assertEqual(asked, unkept(machine))
            self.assertEqual(asked, unkept(machine))
            self.assertEqual(whole, shown_machine(machine))

    def test_no_keep(self):
        for text in MACHINES:
            self.assertIs(None, unkept(read_machine(text)))

    def test_keeps_that_hold(self):
        self.assert_told(None, ["yes"])
        self.assert_told(None, ["x <= 3", "0 <= x", "[ x < 2 or 1 < x ]", "yes"])
        self.assertIs(None, unkept(read_machine("keep yes")))

    def test_fails_in_the_first_room(self):
        self.assert_told((0, ()), ["x != 1"])
        self.assert_told((2, ()), ["yes", "x < 4", "x != 1", "x = 1"])
        self.assertEqual((0, ()), unkept(read_machine("keep 1 = 2")))
        self.assertEqual((1, ()), unkept(read_machine("keep yes ; keep [ not yes ]")))

    def test_fails_in_a_later_room(self):
        self.assert_told((0, (("up", (2,)),)), ["x != 2"])
        self.assert_told((0, (("down", (0,)),)), ["0 < x"])
        self.assert_told((1, (("leap", (3,)),)), ["yes", "x < 3"])

    def test_several_in_the_same_room(self):
        self.assert_told((1, (("down", (0,)),)), ["x < 4", "x != 0", "0 < x", "1 <= x"])
        self.assert_told((0, ()), ["x = 0", "x = 2", "x != 1"])

    def test_several_in_different_rooms(self):
        # The room goes ahead of the keep's number.
        self.assert_told((2, (("up", (2,)),)), ["x != 3", "x != 0", "x != 2"])
        self.assert_told((1, (("down", (0,)),)), ["x != 3", "x != 0"])
        self.assert_told((0, (("up", (2,)),)), ["x != 2", "x != 0", "x != 3"])
        self.assert_told((3, ()), ["x != 3", "x != 0", "x != 2", "x != 1"])

    def test_only_rooms_that_are_come_to_count(self):
        self.assertIs(None, unkept(read_machine(f"{X} ; keep x = 1 ; deed rest when yes")))
        self.assertIs(None, unkept(read_machine(f"{X} ; keep x != 0 ; deed up when yes do x = ( x + 1 )")))

    def test_a_tuple_of_two(self):
        told = unkept(read_machine(f"{X} ; keep x = 1 ; deed up when yes do x = ( x + 1 )"))
        self.assertEqual((0, (("up", (2,)),)), told)
        self.assertEqual((tuple, int, tuple), (type(told), type(told[0]), type(told[1])))

    def test_made_by_hand(self):
        self.assertIs(None, unkept(Machine((), (), ())))


if __name__ == "__main__":
    unittest.main()
