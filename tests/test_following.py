"""Point 16, and points 2 and 3 as far as they speak of runs that are followed."""

import random
import unittest

from nearerwork.checking import checked
from nearerwork.errors import NoAnswer, NoRun, NoTie, WorkError
from nearerwork.following import followed
from nearerwork.machinetexts import read_machine, shown_machine
from nearerwork.tietexts import read_tie, shown_tie
from tests.helper import end_of, far_ends, go_on, goes, holds_by, refusal, some_pairs, some_runs

X = "name x from 0 to 3 at 0"
UP = f"{X} ; deed up when yes do x = ( x + 1 )"
# Counts three ticks, and then does what stands for the far deed.
CLOCK = "name t from 0 to 3 at 3 ; deed tick when 0 < t do t = ( t - 1 ) ; deed ring when t = 0 do t = 3"
BELL = "name b from 0 to 1 at 0 ; deed ring when yes do b = ( 1 - b )"
PAIRS = some_pairs(200) + some_pairs(120, rooms=4) + some_pairs(60, rooms=4, free=0.9)


def read(far_text, near_text, tie_text):
    far, near = read_machine(far_text), read_machine(near_text)
    return far, near, read_tie(tie_text, far, near)


class Following(unittest.TestCase):
    def assert_followed(self, far, near, tie, run):
        """What is told, held against point 16."""
        told = followed(far, near, tie, run)
        self.assertIs(tuple, type(told))
        self.assertEqual(len(run), len(told))
        far_room = far.first()
        self.assertTrue(holds_by(far, near, tie, far_room, near.first()))
        for (called, room), far_step in zip(run, told):
            stood_for = dict(tie.table)[called]
            if stood_for is None:
                self.assertIs(None, far_step)
            else:
                self.assertEqual((tuple, 2, stood_for), (type(far_step), len(far_step), far_step[0]))
                self.assertIn(far_step[1], far.behind(far_room, stood_for))
                far_room = far_step[1]
            self.assertTrue(holds_by(far, near, tie, far_room, room))
        self.assertTrue(go_on(far, tuple(step for step in told if step is not None)))
        if not goes(near, end_of(near, run)) and any(not goes(far, one) for one in far_ends(far, near, tie, run)):
            self.assertFalse(goes(far, far_room))
        self.assertEqual(told, followed(far, near, tie, run))
        return told

    def assert_no_answer(self, step, far, near, tie, run):
        with self.assertRaises(NoAnswer) as caught:
            followed(far, near, tie, run)
        self.assertEqual((step, int), (caught.exception.step, type(caught.exception.step)))
        if step < len(run):
            self.assertTrue(far_ends(far, near, tie, run[:step]))
        self.assertFalse(far_ends(far, near, tie, run[:step + 1]))


class Told(Following):
    def test_the_empty_run(self):
        for far, near, tie in (
            ("", "", "tie yes ; falls 0"), (UP, "", "tie yes ; falls 0"), (UP, UP, "tie @x = x ; step up for up ; falls 0"),
        ):
            self.assertEqual((), followed(*read(far, near, tie), ()))

    def test_step_for_step(self):
        pair = read(UP, UP, "tie @x = x ; step up for up ; falls 0")
        run = (("up", (1,)), ("up", (2,)), ("up", (3,)))
        for length in range(4):
            self.assertEqual(run[:length], self.assert_followed(*pair, run[:length]))

    def test_quiet_steps_at_the_start_and_at_the_end(self):
        pair = read(BELL, CLOCK, "tie yes ; step tick for none ; step ring for ring ; falls t")
        ticks = (("tick", (2,)), ("tick", (1,)), ("tick", (0,)))
        rung = ("ring", (3,))
        self.assertEqual((None, None, None), self.assert_followed(*pair, ticks))
        self.assertEqual((None,), self.assert_followed(*pair, ticks[:1]))
        self.assertEqual((None, None, None, ("ring", (1,))), self.assert_followed(*pair, ticks + (rung,)))
        self.assertEqual((None, None, None, ("ring", (1,)), None, None), self.assert_followed(*pair, ticks + (rung,) + ticks[:2]))
        self.assertEqual((None, None, None, ("ring", (1,)), None, None, None, ("ring", (0,))),
                         self.assert_followed(*pair, (ticks + (rung,)) * 2))

    def test_all_steps_quiet(self):
        pair = read("", UP, "tie yes ; step up for none ; falls 0")
        self.assertEqual((None, None, None), self.assert_followed(*pair, (("up", (1,)), ("up", (2,)), ("up", (3,)))))

    def test_names_of_the_far_deeds(self):
        near = f"{X} ; deed one when x = 0 do x = 1 ; deed two when x = 1 do x = 2"
        far = f"{X} ; deed two when x = 0 do x = 1 ; deed one when x = 1 do x = 2"
        pair = read(far, near, "tie @x = x ; step one for two ; step two for one ; falls 0")
        self.assertEqual((("two", (1,)), ("one", (2,))), self.assert_followed(*pair, (("one", (1,)), ("two", (2,)))))

    def test_only_one_way_answers_what_comes_later(self):
        near = "name y from 0 to 2 at 0 ; deed go when y = 0 do y = 1 ; deed on when y = 1 do y = 2"
        for way in range(4):
            far = f"{X} ; deed go when yes do x any 0 to 3 ; deed on when x = {way}"
            pair = read(far, near, "tie yes ; step go for go ; step on for on ; falls 0")
            self.assertEqual((("go", (way,)), ("on", (way,))), self.assert_followed(*pair, (("go", (1,)), ("on", (2,)))))

    def test_only_one_way_is_tied_later(self):
        near = "name y from 0 to 2 at 0 ; deed go when y < 2 do y = ( y + 1 )"
        for way in range(4):
            far = f"{X} ; deed go when yes do x any 0 to 3 ; deed rest when yes"
            pair = read(far, near, f"tie [ @x = {way} or y != 1 ] ; step go for go ; falls 0")
            told = self.assert_followed(*pair, (("go", (1,)), ("go", (2,))))
            self.assertEqual(("go", (way,)), told[0])

    def test_only_one_way_ends_where_the_far_one_stops(self):
        near = "name y from 0 to 1 at 0 ; deed go when y = 0 do y = 1"
        for way in range(4):
            far = f"{X} ; name z from 0 to 1 at 0 ; deed go when z = 0 do x any 0 to 3 , z = 1 ; deed on when x != {way}"
            pair = read(far, near, "tie yes ; step go for go ; falls 0")
            self.assertEqual((("go", (way, 1)),), self.assert_followed(*pair, (("go", (1,)),)))

    def test_only_one_way_early_on_leads_where_the_far_one_stops(self):
        near = ("name y from 0 to 3 at 0 ; deed pick when y = 0 do y = 1 ; "
                "deed go when [ 0 < y and y < 3 ] do y = ( y + 1 )")
        for way in range(4):
            # The way is chosen once; only behind three steps it tells.
            far = (f"{X} ; name z from 0 to 3 at 0 ; deed pick when z = 0 do x any 0 to 3 , z = 1 ; "
                   f"deed go when [ 0 < z and z < 3 ] do z = ( z + 1 ) ; deed on when x != {way}")
            pair = read(far, near, "tie @z = y ; step pick for pick ; step go for go ; falls 0")
            told = self.assert_followed(*pair, (("pick", (1,)), ("go", (2,)), ("go", (3,))))
            self.assertEqual((("pick", (way, 1)), ("go", (way, 2)), ("go", (way, 3))), told)

    def test_quiet_steps_behind_a_choice(self):
        near = ("name y from 0 to 3 at 0 ; deed pick when y = 0 do y = 1 ; deed wait when y = 1 do y = 2 ; "
                "deed on when y = 2 do y = 3")
        for way in range(4):
            far = f"{X} ; deed pick when yes do x any 0 to 3 ; deed on when x < 4"
            tie = f"tie [ y != 2 or @x = {way} ] ; step pick for pick ; step wait for none ; step on for on ; falls 0"
            run = (("pick", (1,)), ("wait", (2,)), ("on", (3,)))
            self.assertEqual((("pick", (way,)), None, ("on", (way,))), self.assert_followed(*read(far, near, tie), run))

    def test_no_far_run_ends_where_the_far_one_stops(self):
        pair = read("deed go when yes", "name y from 0 to 1 at 0 ; deed go when y = 0 do y = 1",
                    "tie yes ; step go for go ; falls 0")
        self.assertEqual((("go", ()),), self.assert_followed(*pair, (("go", (1,)),)))
        self.assertEqual("stop", checked(*pair)[0])

    def test_a_run_that_is_answered_though_others_are_not(self):
        near = f"{X} ; deed a when x = 0 do x any 1 to 3"
        pair = read(f"{X} ; deed a when x = 0 do x = 2", near, "tie @x = x ; step a for a ; falls 0")
        self.assertEqual((("a", (2,)),), self.assert_followed(*pair, (("a", (2,)),)))
        self.assert_no_answer(0, *pair, (("a", (1,)),))

    def test_long_runs(self):
        pair = read(BELL, CLOCK, "tie yes ; step tick for none ; step ring for ring ; falls t")
        run = (("tick", (2,)), ("tick", (1,)), ("tick", (0,)), ("ring", (3,))) * 300
        told = self.assert_followed(*pair, run)
        self.assertEqual(300, len([step for step in told if step is not None]))

    def test_long_runs_with_many_ways_that_come_together(self):
        far = (f"{X} ; name y from 0 to 3 at 0 ; deed go when yes do x any 0 to 3 , y any 0 to 3 ; "
               "deed back when [ x = 3 and y = 2 ] do x = 0 , y = 0")
        near = "name n from 0 to 1 at 0 ; deed go when yes ; deed back when yes"
        pair = read(far, near, "tie yes ; step go for go ; step back for back ; falls 0")
        run = ((("go", (0,)),) * 24 + (("back", (0,)),)) * 6
        told = self.assert_followed(*pair, run)
        for number in range(6):
            self.assertEqual(("go", (3, 2)), told[25 * number + 23])
        self.assert_no_answer(24, *pair, (("go", (0,)),) * 23 + (("back", (0,)),) * 3)

    def test_long_runs_over_all_rooms(self):
        names = " ; ".join(f"name {name} from 0 to 5 at 0" for name in "xyz")
        text = f"{names} ; deed go when yes do x any 0 to 5 , y any 0 to 5 , z any 0 to 5 ; deed on when x = 5"
        chance = random.Random(1)
        run = tuple(("go", tuple(chance.randrange(6) for name in "xyz")) for step in range(150))
        for saying in ("yes", "[ x <= @x and y <= @y ]", "[ @x = x and [ @y = y and @z = z ] ]"):
            pair = read(text, text, f"tie {saying} ; step go for go ; step on for on ; falls 0")
            self.assert_followed(*pair, run)

    def test_not_by_going_through_all_ways(self):
        # Two ways at each of 120 steps, and the last step is answered by none.
        far = f"{X} ; deed go when yes do x any 0 to 1 ; deed on when x = 3"
        pair = read(far, "deed go when yes ; deed on when yes", "tie yes ; step go for go ; step on for on ; falls 0")
        self.assert_no_answer(120, *pair, (("go", ()),) * 120 + (("on", ()),))
        self.assert_followed(*pair, (("go", ()),) * 120)


class Refused(Following):
    PAIR = read(UP, UP, "tie @x = x ; step up for up ; falls 0")

    def test_no_run(self):
        for run in (
            (("down", (1,)),), (("", (1,)),), (("u", (1,)),), (("up", (2,)),), (("up", (0,)),), (("up", ()),), (("up", (1, 1)),),
            (("up", (1,)), ("up", (3,))), (("up", (2,)), ("up", (3,))), (("up", (1,)), ("up", (1,))),
            (("up", (1,)), ("up", (2,)), ("up", (3,)), ("up", (4,))), (("up", (1,)), ("down", (0,))),
        ):
            with self.subTest(run=run):
                self.assertIs(NoRun, refusal(followed, *self.PAIR, run))

    def test_a_step_left_out(self):
        near = f"{CLOCK} ; deed wind when t = 1 do t = 3"
        pair = read(BELL, near, "tie yes ; step tick for none ; step ring for ring ; step wind for none ; falls t")
        run = (("tick", (2,)), ("tick", (1,)), ("wind", (3,)), ("tick", (2,)), ("tick", (1,)), ("tick", (0,)), ("ring", (3,)))
        self.assert_followed(*pair, run)
        for number in range(len(run) - 1):
            self.assertIs(NoRun, refusal(followed, *pair, run[:number] + run[number + 1:]))

    def test_a_run_of_the_far_machine_is_none_of_the_near_one(self):
        pair = read(BELL, CLOCK, "tie yes ; step tick for none ; step ring for ring ; falls t")
        self.assertIs(NoRun, refusal(followed, *pair, (("ring", (1,)),)))

    def test_first_rooms_not_tied(self):
        pair = read(UP, UP, "tie @x = ( x + 1 ) ; step up for up ; falls 0")
        self.assertIs(NoTie, refusal(followed, *pair, ()))
        self.assertIs(NoTie, refusal(followed, *pair, (("up", (1,)),)))
        pair = read(UP, UP, "tie 0 < x ; step up for up ; falls 0")
        self.assertIs(NoTie, refusal(followed, *pair, (("up", (1,)), ("up", (2,)))))

    def test_no_answer(self):
        run = (("up", (1,)), ("up", (2,)), ("up", (3,)))
        for most in range(3):
            pair = read(f"name x from 0 to {most} at 0 ; deed up when yes do x = ( x + 1 )", UP,
                        "tie yes ; step up for up ; falls 0")
            self.assert_no_answer(most, *pair, run)
            self.assert_followed(*pair, run[:most])
            pair = read(UP, UP, f"tie x <= {most} ; step up for up ; falls 0")
            self.assert_no_answer(most, *pair, run)

    def test_no_answer_to_a_quiet_step(self):
        pair = read(BELL, CLOCK, "tie 0 < t ; step tick for none ; step ring for ring ; falls t")
        self.assert_no_answer(2, *pair, (("tick", (2,)), ("tick", (1,)), ("tick", (0,)), ("ring", (3,))))

    def test_each_step_is_answered_but_not_all_by_one_run(self):
        far = f"{X} ; deed pick when x = 0 do x any 1 to 2 ; deed one when x = 1 ; deed two when x = 2"
        near = "deed pick when yes ; deed one when yes ; deed two when yes"
        pair = read(far, near, "tie yes ; step pick for pick ; step one for one ; step two for two ; falls 0")
        pick, one, two = ("pick", ()), ("one", ()), ("two", ())
        self.assert_followed(*pair, (pick, one, one))
        self.assert_followed(*pair, (pick, two))
        self.assert_no_answer(2, *pair, (pick, one, two))
        self.assert_no_answer(3, *pair, (pick, two, two, one, two))
        self.assert_no_answer(0, *pair, (one, pick))

    def test_two_refusals_due_at_once(self):
        untied = read(UP, UP, "tie [ not yes ] ; step up for up ; falls 0")
        self.assertIs(NoRun, refusal(followed, *untied, (("down", (1,)),)))
        self.assertIs(NoRun, refusal(followed, *untied, (("up", (1,)), ("up", (1,)))))
        self.assertIs(NoTie, refusal(followed, *untied, (("up", (1,)),)))
        unanswered = read(X, UP, "tie @x = x ; step up for none ; falls 0")
        self.assertIs(NoRun, refusal(followed, *unanswered, (("up", (1,)), ("up", (3,)))))
        self.assertIs(NoAnswer, refusal(followed, *unanswered, (("up", (1,)), ("up", (2,)))))


class SecondReckoning(Following):
    def test_runs_of_many_machines(self):
        chance = random.Random(16)
        found = {None: 0, NoTie: 0, NoAnswer: 0}
        for far, near, tie in PAIRS:
            for run in some_runs(near, chance.choice([1, 3, 10, 40]), chance):
                with self.subTest(far=shown_machine(far), near=shown_machine(near), tie=shown_tie(tie), run=run):
                    answered = [bool(far_ends(far, near, tie, run[:length])) for length in range(len(run) + 1)]
                    if not answered[0]:
                        found[NoTie] += 1
                        self.assertIs(NoTie, refusal(followed, far, near, tie, run))
                    elif False in answered:
                        found[NoAnswer] += 1
                        self.assert_no_answer(answered.index(False) - 1, far, near, tie, run)
                    else:
                        found[None] += 1
                        self.assert_followed(far, near, tie, run)
        self.assertTrue(min(found.values()) > 20)

    def test_where_it_is_nearer_each_run_is_followed_to_its_end(self):
        chance = random.Random(3)
        stopped = 0
        for far, near, tie in PAIRS:
            if checked(far, near, tie)[0] == "nearer":
                for run in some_runs(near, 12, chance):
                    told = tuple(step for step in self.assert_followed(far, near, tie, run) if step is not None)
                    if not goes(near, end_of(near, run)):
                        stopped += 1
                        self.assertFalse(goes(far, end_of(far, told)))
        self.assertTrue(stopped > 20)

    def test_where_it_is_not_the_told_run_is_not_followed(self):
        for far, near, tie in PAIRS:
            verdict = checked(far, near, tie)
            if verdict[0] == "step":
                self.assert_followed(far, near, tie, verdict[1])
                self.assert_no_answer(len(verdict[1]), far, near, tie, verdict[1] + (verdict[2:],))
            elif verdict[0] == "stop":
                told = tuple(step for step in self.assert_followed(far, near, tie, verdict[1]) if step is not None)
                self.assertTrue(goes(far, end_of(far, told)))
            elif verdict[0] == "start":
                self.assertIs(NoTie, refusal(followed, far, near, tie, ()))

    def test_nothing_is_changed(self):
        chance = random.Random(2)
        for far, near, tie in PAIRS[:100]:
            shown = (shown_machine(far), shown_machine(near), shown_tie(tie), tie.table)
            for run in some_runs(near, 5, chance):
                kept = tuple(run)
                try:
                    followed(far, near, tie, run)
                except WorkError:
                    pass
                self.assertEqual(kept, run)
            self.assertEqual(shown, (shown_machine(far), shown_machine(near), shown_tie(tie), tie.table))


if __name__ == "__main__":
    unittest.main()
