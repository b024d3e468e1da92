"""Point 15, with points 3 and 14 as far as it rests on them, and point 2 of what is told."""

import unittest

from nearerwork.checking import checked
from nearerwork.errors import TooMany
from nearerwork.machinetexts import read_machine, shown_machine
from nearerwork.tietexts import read_tie, shown_tie
from tests.helper import end_of, far_ends, go_on, goes, holds_by, refusal, some_pairs, steps_of

X = "name x from 0 to 3 at 0"
UP = f"{X} ; deed up when yes do x = ( x + 1 )"
PAIRS = some_pairs(300) + some_pairs(150, rooms=4)


def told(far_text, near_text, tie_text):
    far, near = read_machine(far_text), read_machine(near_text)
    return checked(far, near, read_tie(tie_text, far, near))


def told_by_point_15(far, near, tie, most=400):
    """The second reckoning: TooMany, or what is told."""
    if not holds_by(far, near, tie, far.first(), near.first()):
        return ("start",)
    met, entries = {(near.first(), frozenset([far.first()]))}, [((), frozenset([far.first()]))]
    for run, ends in entries:
        room = end_of(near, run)
        if not goes(near, room) and all(goes(far, far_room) for far_room in ends):
            return ("stop", run)
        for called, behind in steps_of(near, room):
            stood_for = dict(tie.table)[called]
            reached = ends if stood_for is None else {one for end in ends for one in far.behind(end, stood_for)}
            more = frozenset(one for one in reached if holds_by(far, near, tie, one, behind))
            if not more:
                return ("step", run, called, behind)
            if (behind, more) not in met:
                if len(met) == most:
                    return TooMany
                met.add((behind, more))
                entries.append((run + ((called, behind),), more))
    return ("nearer", len(met))


class Start(unittest.TestCase):
    def test_first_rooms_not_tied(self):
        self.assertEqual(("start",), told(UP, UP, "tie [ not yes ] ; step up for up ; falls 0"))
        self.assertEqual(("start",), told(UP, UP, "tie @x = ( x + 1 ) ; step up for up ; falls 0"))
        self.assertEqual(("start",), told("", "", "tie 1 < 1 ; falls 0"))
        self.assertEqual(("start",), told("name x from 0 to 1 at 1", X, "tie @x = x ; falls 0"))

    def test_ahead_of_a_stop(self):
        self.assertEqual(("start",), told(UP, X, "tie 0 < @x ; falls 0"))

    def test_tied_in_the_first_rooms_alone(self):
        self.assertEqual(("step", (), "up", (1,)), told(UP, UP, "tie [ x = 0 and @x = 0 ] ; step up for up ; falls 0"))


class Stop(unittest.TestCase):
    def test_in_the_first_room(self):
        self.assertEqual(("stop", ()), told(UP, X, "tie yes ; falls 0"))
        self.assertEqual(("nearer", 1), told(X, X, "tie yes ; falls 0"))
        self.assertEqual(("nearer", 1), told("", "", "tie yes ; falls 0"))
        self.assertEqual(("stop", ()), told("deed go when yes", "", "tie yes ; falls 0"))

    def test_the_far_one_may_stop_where_the_near_one_goes_on(self):
        self.assertEqual(("nearer", 4), told("", UP, "tie yes ; step up for none ; falls 0"))

    def test_behind_a_run(self):
        short = "name x from 0 to 2 at 0 ; deed up when yes do x = ( x + 1 )"
        self.assertEqual(("stop", (("up", (1,)), ("up", (2,)))), told(UP, short, "tie yes ; step up for up ; falls 0"))
        self.assertEqual(("nearer", 3), told(short, short, "tie yes ; step up for up ; falls 0"))

    def test_the_far_one_stops_in_none_in_one_in_all(self):
        for least, asked in ((0, ("nearer", 2)), (1, ("nearer", 2)), (2, ("nearer", 2)), (3, ("nearer", 2)),
                             (4, ("stop", (("go", (1,)),)))):
            # Behind go the far machine is in 1, 2 or 3, and stops from least on.
            far = f"{X} ; deed go when x = 0 do x any 1 to 3 ; deed on when [ 0 < x and x < {least} ]"
            near = "name y from 0 to 1 at 0 ; deed go when y = 0 do y = 1"
            self.assertEqual(asked, told(far, near, "tie yes ; step go for go ; falls 0"))

    def test_only_rooms_that_are_tied_count(self):
        far = f"{X} ; deed go when x = 0 do x any 1 to 3 ; deed on when [ 0 < x and x < 3 ]"
        near = "name y from 0 to 1 at 0 ; deed go when y = 0 do y = 1"
        self.assertEqual(("nearer", 2), told(far, near, "tie yes ; step go for go ; falls 0"))
        self.assertEqual(("stop", (("go", (1,)),)), told(far, near, "tie @x < 3 ; step go for go ; falls 0"))

    def test_where_a_change_has_no_value(self):
        far = f"{X} ; deed go when yes do x = ( x + 4 )"
        self.assertEqual(("nearer", 1), told(far, X, "tie yes ; falls 0"))
        self.assertEqual(("stop", ()), told(UP, far, "tie yes ; step go for up ; falls 0"))

    def test_the_first_that_stops(self):
        near = f"{X} ; deed a when x = 0 do x = 3 ; deed b when x = 0 do x = 2"
        tie = "tie yes ; step a for go ; step b for go ; falls 0"
        self.assertEqual(("stop", (("a", (3,)),)), told("deed go when yes", near, tie))
        near = f"{X} ; deed a when x = 0 do x any 2 to 3 ; deed b when x = 0 do x = 1"
        self.assertEqual(("stop", (("a", (2,)),)), told("deed go when yes", near, tie))


class Step(unittest.TestCase):
    def test_from_the_first_entry(self):
        self.assertEqual(("step", (), "up", (1,)), told(X, UP, "tie @x = x ; step up for none ; falls 0"))
        self.assertEqual(("step", (), "up", (1,)),
                         told(f"{X} ; deed no when 0 < x", UP, "tie yes ; step up for no ; falls 0"))

    def test_from_later_ones(self):
        far = "name x from 0 to 2 at 0 ; deed up when yes do x = ( x + 1 )"
        self.assertEqual(("step", (("up", (1,)), ("up", (2,))), "up", (3,)),
                         told(far, UP, "tie @x = x ; step up for up ; falls 0"))
        self.assertEqual(("step", (("up", (1,)), ("up", (2,))), "up", (3,)),
                         told(far, UP, "tie yes ; step up for up ; falls 0"))

    def test_a_quiet_step_without_answer(self):
        near = f"{X} ; deed up when x < 2 do x = ( x + 1 ) ; deed still when x = 2 do x = 3"
        tie = "tie @x = x ; step up for up ; step still for none ; falls 0"
        self.assertEqual(("step", (("up", (1,)), ("up", (2,))), "still", (3,)), told(UP, near, tie))

    def test_the_deeds_in_order(self):
        near = f"{X} ; deed z when yes do x = 2 ; deed a when yes do x = 1"
        self.assertEqual(("step", (), "z", (2,)), told(X, near, "tie @x = x ; step a for none ; step z for none ; falls 0"))
        near = f"{X} ; deed a when yes do x = 1 ; deed z when yes do x = 2"
        self.assertEqual(("step", (), "a", (1,)), told(X, near, "tie @x = x ; step a for none ; step z for none ; falls 0"))

    def test_the_rooms_rising(self):
        near = f"{X} ; deed a when yes do x any 0 to 3"
        self.assertEqual(("step", (), "a", (1,)), told(X, near, "tie @x = x ; step a for none ; falls 0"))
        self.assertEqual(("step", (), "a", (2,)), told(X, near, "tie x < 2 ; step a for none ; falls 0"))
        self.assertEqual(("step", (), "a", (3,)), told(X, near, "tie x < 3 ; step a for none ; falls 0"))

    def test_an_entry_is_looked_at_whole_ahead_of_the_next(self):
        # From 0 to 1 by a; from 1 no step is answered, but 0 has one more that isn't, by b.
        near = f"{X} ; deed a when x < 2 do x = ( x + 1 ) ; deed b when x = 0 do x = 3"
        tie = "tie x < 2 ; step a for none ; step b for none ; falls 0"
        self.assertEqual(("step", (), "b", (3,)), told(X, near, tie))

    def test_stop_and_step_of_two_entries(self):
        # Behind a the near machine stops; behind b it goes on without an answer: the entry met first is told.
        deeds = {"a": "deed a when x = 0 do x = 1", "b": "deed b when x = 0 do x = 2", "c": "deed c when x = 2 do x = 3"}
        tie = "tie x < 3 ; step a for go ; step b for go ; step c for go ; falls 0"
        for order, asked in (("abc", ("stop", (("a", (1,)),))), ("bac", ("step", (("b", (2,)),), "c", (3,)))):
            near = " ; ".join([X] + [deeds[called] for called in order])
            self.assertEqual(asked, told("deed go when yes", near, tie))

    def test_a_stop_in_an_entry_behind_a_step_in_one_ahead(self):
        near = f"{X} ; deed a when x = 0 do x = 1 ; deed b when x = 0 do x = 3"
        tie = "tie x < 3 ; step a for go ; step b for go ; falls 0"
        self.assertEqual(("step", (), "b", (3,)), told("deed go when yes", near, tie))

    def test_whichever_far_run_answered_the_steps_ahead(self):
        # Only from 3 can the far machine do end; a way to 3 answers, one of three.
        far = f"{X} ; deed go when x = 0 do x any 1 to 3 ; deed finish when x = 3"
        near = "name y from 0 to 2 at 0 ; deed go when y = 0 do y = 1 ; deed finish when y = 1 do y = 2"
        # Behind both no machine goes on, so that the far one has to stop: it goes from 3 to 3 again and again.
        self.assertEqual(("stop", (("go", (1,)), ("finish", (2,)))),
                         told(far, near, "tie yes ; step go for go ; step finish for finish ; falls 0"))
        far = f"{X} ; deed go when x = 0 do x any 1 to 3 ; deed finish when x = 3 do x = 2"
        self.assertEqual(("nearer", 3), told(far, near, "tie yes ; step go for go ; step finish for finish ; falls 0"))
        self.assertEqual(("step", (("go", (1,)),), "finish", (2,)),
                         told(far, near, "tie @x < 3 ; step go for go ; step finish for finish ; falls 0"))


class Nearer(unittest.TestCase):
    def test_itself(self):
        self.assertEqual(("nearer", 4), told(UP, UP, "tie @x = x ; step up for up ; falls 0"))
        self.assertEqual(("nearer", 4), told(UP, UP, "tie yes ; step up for up ; falls 0"))

    def test_without_names_and_without_deeds(self):
        for far, near, steps, number in (
            ("", "", "", 1), ("", X, "", 1), (X, "", "", 1), ("deed go when yes", "deed go when yes", "step go for go ;", 1),
            ("", "deed go when yes", "step go for none ;", 1), (UP, "deed go when yes", "step go for none ;", 1),
            ("deed go when yes", UP.replace("yes", "x < 3") + " ; deed on when x = 3", "step up for go ; step on for go ;", 4),
        ):
            self.assertEqual(("nearer", number), told(far, near, f"tie yes ; {steps} falls 0"))

    def test_one_room_with_several_lists_of_far_rooms(self):
        # One near room; the far rooms are 0, then 0 and 1, and so on up to 5.
        far = "name x from 0 to 5 at 0 ; deed grow when yes do x any x to ( x + 1 )"
        self.assertEqual(("nearer", 6), told(far, "deed grow when yes", "tie yes ; step grow for grow ; falls 0"))
        for most in range(6):
            self.assertEqual(("nearer", most + 1),
                             told(far, "deed grow when yes", f"tie @x <= {most} ; step grow for grow ; falls 0"))

    def test_lists_of_far_rooms_that_lie_in_one_another(self):
        far = "name x from 0 to 2 at 0 ; deed all when yes do x any 0 to 2 ; deed one when yes do x = 0"
        near = "deed all when yes ; deed one when yes"
        self.assertEqual(("nearer", 2), told(far, near, "tie yes ; step all for all ; step one for one ; falls 0"))

    def test_quiet_deeds_leave_the_far_rooms(self):
        near = f"{X} ; deed up when yes do x = ( x + 1 ) ; deed back when x = 3 do x = 0"
        far = "name n from 0 to 1 at 0 ; deed turn when n = 0 do n = 1 ; deed back when n = 1 do n = 0"
        self.assertEqual(("nearer", 4), told(far, near, "tie @n = 0 ; step up for none ; step back for none ; falls 0"))
        self.assertEqual(("step", (("up", (1,)), ("up", (2,)), ("up", (3,))), "back", (0,)),
                         told(far, near, "tie @n = 0 ; step up for none ; step back for turn ; falls 0"))
        self.assertEqual(("step", (("up", (1,)), ("up", (2,)), ("up", (3,)), ("back", (0,)), ("up", (1,)), ("up", (2,)),
                                   ("up", (3,))), "back", (0,)),
                         told(far, near, "tie yes ; step up for none ; step back for turn ; falls 0"))

    def test_a_nearer_plan(self):
        far = "name done from 0 to 1 at 0 ; deed work when done = 0 do done = 1"
        near = "name left from 0 to 3 at 3 ; deed cut when 1 < left do left = ( left - 1 ) ; deed stop when left = 1 do left = 0"
        tie = "tie [ [ @done = 1 and left = 0 ] or [ @done = 0 and 0 < left ] ] ; "
        self.assertEqual(("nearer", 4), told(far, near, tie + "step cut for none ; step stop for work ; falls left"))
        self.assertEqual(("step", (), "cut", (2,)), told(far, near, tie + "step cut for work ; step stop for work ; falls 0"))
        self.assertEqual(("step", (("cut", (2,)), ("cut", (1,))), "stop", (0,)),
                         told(far, near, tie + "step cut for none ; step stop for none ; falls 0"))


# Near rooms by far rooms' lists: nx and ny walk the near grid, gx and gy make the far intervals longer, so that each
# near room is met with each pair of intervals.
def grid(near_x, near_y, far_x, far_y, last="", when="yes"):
    far = (f"name x from 0 to {far_x - 1} at 0 ; name y from 0 to {far_y - 1} at 0 ; deed rest when yes ; "
           "deed fx when yes do x any x to ( x + 1 ) ; deed fy when yes do y any y to ( y + 1 ) ; "
           "deed home when yes do x = 0 , y = 0 ; deed never when [ not yes ]")
    near = (f"name x from 0 to {near_x - 1} at 0 ; name y from 0 to {near_y - 1} at 0 ; name z from 0 to 1 at 0 ; "
            f"{last.partition('|')[0]}deed nx when {when} do x = ( x + 1 ) ; deed ny when {when} do y = ( y + 1 ) ; "
            f"deed gx when {when} ; deed gy when {when}{last.partition('|')[2]}")
    return far, near


GRID_STEPS = "step nx for rest ; step ny for rest ; step gx for fx ; step gy for fy ; "


class Bounds(unittest.TestCase):
    def test_small_grids(self):
        for near_x, near_y, far_x, far_y in ((1, 1, 1, 1), (2, 1, 1, 3), (3, 2, 2, 2), (1, 6, 6, 1)):
            self.assertEqual(("nearer", near_x * near_y * far_x * far_y),
                             told(*grid(near_x, near_y, far_x, far_y), f"tie yes ; {GRID_STEPS}falls 0"))

    def test_just_400(self):
        self.assertEqual(("nearer", 400), told(*grid(4, 5, 5, 4), f"tie yes ; {GRID_STEPS}falls 0"))

    def test_just_401(self):
        # One entry more: z = 1 is come to from the last room alone, and the far machine is home then.
        more = "| ; deed off when [ z = 0 and [ x = 3 and y = 4 ] ] do z = 1 ; deed idle when z = 1"
        texts = grid(4, 5, 5, 4, more, "z = 0")
        steps = f"tie yes ; {GRID_STEPS}step off for home ; step idle for home ; falls 0"
        self.assertIs(TooMany, refusal(told, *texts, steps))
        far, near = read_machine(texts[0]), read_machine(texts[1])
        self.assertEqual(("nearer", 401), told_by_point_15(far, near, read_tie(steps, far, near), most=1000))
        texts = grid(4, 5, 4, 4, more, "z = 0")
        self.assertEqual(("nearer", 321), told(*texts, steps))

    def test_many_more(self):
        for near_x, near_y, far_x, far_y in ((6, 6, 6, 6), (5, 5, 5, 5), (6, 4, 5, 5)):
            self.assertIs(TooMany, refusal(told, *grid(near_x, near_y, far_x, far_y), f"tie yes ; {GRID_STEPS}falls 0"))

    def test_something_else_ahead_of_the_401st(self):
        steps = f"tie yes ; {GRID_STEPS}step bad for never ; falls 0"
        found = {}
        for x, y in ((0, 0), (0, 5), (5, 0), (2, 5), (3, 5), (5, 3), (4, 4), (5, 4), (4, 5), (5, 5)):
            bad = f"deed bad when [ x = {x} and y = {y} ]"
            # As the first deed and as the last one.
            for last in (f"{bad} ; |", f"| ; {bad}"):
                far_text, near_text = grid(6, 6, 4, 4, last)
                far, near = read_machine(far_text), read_machine(near_text)
                tie = read_tie(steps, far, near)
                asked = told_by_point_15(far, near, tie)
                found.setdefault((x, y), []).append(asked if asked is TooMany else asked[0])
                if asked is TooMany:
                    self.assertIs(TooMany, refusal(checked, far, near, tie))
                else:
                    self.assertEqual(asked, checked(far, near, tie))
        self.assertEqual(["step", "step"], found[(4, 4)])
        # Here the step without an answer and the 401st entry are by two deeds from one entry.
        self.assertEqual(["step", TooMany], found[(5, 4)])
        self.assertEqual([TooMany, TooMany], found[(5, 5)])

    def test_a_stop_ahead_of_the_401st_or_behind_it(self):
        found = []
        for level in range(11):
            # The near machine stops in the rooms that are so many steps from the first one, and is come to no further.
            far_text, near_text = grid(6, 6, 4, 4, when=f"( x + y ) < {level}")
            far, near = read_machine(far_text), read_machine(near_text)
            tie = read_tie(f"tie yes ; {GRID_STEPS}falls 0", far, near)
            asked = told_by_point_15(far, near, tie)
            found.append(asked if asked is TooMany else asked[0])
            if asked is TooMany:
                self.assertIs(TooMany, refusal(checked, far, near, tie))
            else:
                self.assertEqual(asked, checked(far, near, tie))
        self.assertEqual(["stop", TooMany], sorted(set(found), key=str, reverse=True))

    def test_all_rooms_of_both(self):
        names = " ; ".join(f"name {name} from 0 to 5 at 0" for name in "xyz")
        deeds = " ; ".join(f"deed {called} when yes do x any 0 to 5 , y any 0 to 5 , z any 0 to 5" for called in "abcdef")
        steps = " ; ".join(f"step {called} for {called}" for called in "abcdef")
        text = f"{names} ; {deeds}"
        self.assertEqual(("nearer", 217), told(text, text, f"tie yes ; {steps} ; falls 0"))
        own = "[ @x = x and [ @y = y and @z = z ] ]"
        self.assertEqual(("nearer", 216), told(text, text, f"tie {own} ; {steps} ; falls 0"))


class SecondReckoning(unittest.TestCase):
    def test_the_same_is_told(self):
        found = set()
        for far, near, tie in PAIRS:
            asked = told_by_point_15(far, near, tie)
            found.add(asked[0])
            with self.subTest(far=shown_machine(far), near=shown_machine(near), tie=shown_tie(tie)):
                self.assertEqual(asked, checked(far, near, tie))
        self.assertEqual({"start", "stop", "step", "nearer"}, found)

    def test_what_is_told_is_so(self):
        for far, near, tie in PAIRS:
            verdict = checked(far, near, tie)
            with self.subTest(far=shown_machine(far), near=shown_machine(near), tie=shown_tie(tie)):
                self.assert_so(far, near, tie, verdict)

    def assert_so(self, far, near, tie, verdict):
        self.assertIs(tuple, type(verdict))
        if verdict[0] == "start":
            self.assertEqual(set(), far_ends(far, near, tie, ()))
        elif verdict[0] == "stop":
            self.assertTrue(go_on(near, verdict[1]))
            self.assertFalse(goes(near, end_of(near, verdict[1])))
            ends = far_ends(far, near, tie, verdict[1])
            self.assertTrue(ends and all(goes(far, far_room) for far_room in ends))
        elif verdict[0] == "step":
            self.assertTrue(go_on(near, verdict[1] + (verdict[2:],)))
            self.assertTrue(far_ends(far, near, tie, verdict[1]))
            self.assertEqual(set(), far_ends(far, near, tie, verdict[1] + (verdict[2:],)))
        else:
            self.assert_each_short_run_is_answered(far, near, tie)

    def assert_each_short_run_is_answered(self, far, near, tie):
        runs = [()]
        for run in runs:
            ends = far_ends(far, near, tie, run)
            self.assertTrue(ends)
            steps = steps_of(near, end_of(near, run))
            if not steps:
                self.assertFalse(all(goes(far, far_room) for far_room in ends))
            if len(run) < 4 and len(runs) < 150:
                runs.extend(run + (step,) for step in steps)

    def test_nothing_is_changed(self):
        for far, near, tie in PAIRS[:100]:
            shown = (shown_machine(far), shown_machine(near), shown_tie(tie), tie.table)
            verdict = checked(far, near, tie)
            self.assertEqual(verdict, checked(far, near, tie))
            self.assertEqual(shown, (shown_machine(far), shown_machine(near), shown_tie(tie), tie.table))


if __name__ == "__main__":
    unittest.main()
