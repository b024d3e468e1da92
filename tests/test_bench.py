"""Points 24 and 25, point 3 over the whole, and point 2 of what a bench keeps and tells."""

import random
import unittest

from nearerwork.bench import Bench
from nearerwork.checking import checked
from nearerwork.chains import joined_pairs, joined_tables, own_tie
from nearerwork.errors import (
    NoMachine, NoName, NoRange, NoRun, NoStep, NoText, NotFalling, NotNearer, TooMany, Twice, Unkept, WorkError,
)
from nearerwork.falling import not_falling
from nearerwork.finding import paper_of
from nearerwork.following import followed
from nearerwork.levels import levels_of
from nearerwork.machinetexts import read_machine, shown_machine
from nearerwork.papers import is_closed, is_paper
from nearerwork.tietexts import read_tie, shown_tie
from nearerwork.walking import unkept
from tests.helper import (
    blanks, end_of, far_ends, go_on, goes, holds_by, long_saying, refusal, rooms_come_to, some_chain, some_runs, squares,
)

# A thing is made; in two cuts and a finish; with a tool that is taken for each cut; with an eye on the tool.
PLANS = (
    "name done from 0 to 1 at 0 ; keep done <= 1 ; deed work when done = 0 do done = 1",
    "name left from 0 to 3 at 3 ; keep left <= 3 ; deed cut when 1 < left do left = ( left - 1 ) ; "
    "deed finish when left = 1 do left = 0",
    "name left from 0 to 3 at 3 ; name tool from 0 to 1 at 0 ; keep [ 0 < left or tool = 0 ] ; "
    "deed take when [ 1 < left and tool = 0 ] do tool = 1 ; deed cut when tool = 1 do left = ( left - 1 ) , tool = 0 ; "
    "deed finish when left = 1 do left = 0",
    "name left from 0 to 3 at 3 ; name tool from 0 to 1 at 0 ; name seen from 0 to 1 at 0 ; "
    "deed cut when [ tool = 1 and seen = 1 ] do left = ( left - 1 ) , tool = 0 , seen = 0 ; "
    "deed take when [ 1 < left and tool = 0 ] do tool = 1 ; deed look when [ tool = 1 and seen = 0 ] do seen = 1 ; "
    "deed finish when left = 1 do left = 0",
)
TIES = (
    None,
    "tie [ [ @done = 0 and 0 < left ] or [ @done = 1 and left = 0 ] ] ; step cut for none ; step finish for work ; falls left",
    "tie @left = left ; step take for none ; step cut for cut ; step finish for finish ; falls ( 1 - tool )",
    "tie [ @left = left and @tool = tool ] ; step look for none ; step take for take ; step cut for cut ; "
    "step finish for finish ; falls ( 1 - seen )",
)
TABLES = (
    (("work", "work"),),
    (("cut", None), ("finish", "work")),
    (("take", None), ("cut", None), ("finish", "work")),
    (("cut", None), ("take", None), ("look", None), ("finish", "work")),
)
WHOLE_RUN = (
    ("take", (3, 1, 0)), ("look", (3, 1, 1)), ("cut", (2, 0, 0)), ("take", (2, 1, 0)), ("look", (2, 1, 1)), ("cut", (1, 0, 0)),
    ("finish", (0, 0, 0)),
)
WHOLE_RUNS = [
    (("work", (1,)),),
    (("cut", (2,)), ("cut", (1,)), ("finish", (0,))),
    (("take", (3, 1)), ("cut", (2, 0)), ("take", (2, 1)), ("cut", (1, 0)), ("finish", (0, 0))),
    WHOLE_RUN,
]
X = "name x from 0 to 3 at 0"
UP = f"{X} ; deed up when yes do x = ( x + 1 )"
OWN_UP = "tie @x = x ; step up for up ; falls 0"


def chain_of(length):
    bench = Bench(PLANS[0])
    for number in range(1, length):
        bench.nearer(PLANS[number], TIES[number])
    return bench


def number_of(bench):
    number = 0
    while refusal(bench.text_of, number) is None:
        number += 1
    return number


def all_told(bench):
    """All that a bench tells of its machines, runs of all rooms that are come to among it."""
    told = []
    for number in range(number_of(bench)):
        machine = read_machine(bench.text_of(number))
        chance = random.Random(number)
        runs = [bench.runs_of(number, run) for run in some_runs(machine, 8, chance)]
        told.append((bench.text_of(number), bench.table_of(number), runs))
    return told


class Benches(unittest.TestCase):
    def assert_followed(self, far, near, tie, run, far_run):
        """A far run without Nones, held against points 11, 14 and 16 step by step."""
        self.assertTrue(go_on(far, far_run))
        far_room, left = far.first(), list(far_run)
        self.assertTrue(holds_by(far, near, tie, far_room, near.first()))
        for called, room in run:
            stood_for = dict(tie.table)[called]
            if stood_for is not None:
                far_called, far_behind = left.pop(0)
                self.assertEqual(stood_for, far_called)
                self.assertIn(far_behind, far.behind(far_room, stood_for))
                far_room = far_behind
            self.assertTrue(holds_by(far, near, tie, far_room, room))
        self.assertEqual([], left)
        if not goes(near, end_of(near, run)):
            self.assertFalse(goes(far, far_room))

    def assert_refused(self, asked, bench, text, tie_text, fields=None):
        """A refusal that changes nothing; fields by their names."""
        ahead = all_told(bench)
        for time in range(2):
            with self.assertRaises(WorkError) as caught:
                bench.nearer(text, tie_text)
            self.assertIs(asked, type(caught.exception), (text, tie_text))
            for name, value in (fields or {}).items():
                self.assertEqual(value, getattr(caught.exception, name))
            self.assertEqual(ahead, all_told(bench))


class First(Benches):
    def assert_first(self, asked, text):
        self.assertIs(asked, refusal(Bench, text), text)

    def test_taken(self):
        for text in ("", "deed go when yes", X, UP) + PLANS:
            bench = Bench(text)
            self.assertEqual(text, bench.text_of(0))
            self.assertEqual(1, number_of(bench))

    def test_refused_as_read_machine_does(self):
        for asked, text in (
            (NoText, "?"), (NoText, "name"), (NoText, "deed up"), (NoText, ";"), (NoText, f"{X} ;"), (NoText, "@x"),
            (NoText, f"deed up when yes ; {X}"), (TooMany, f"keep {long_saying(300)}"), (TooMany, f"keep {squares(9)}"),
            (TooMany, " ; ".join(f"name {name} from 0 to 1 at 0" for name in "abcd")),
            (TooMany, " ; ".join(["keep yes"] * 5)), (TooMany, " ; ".join(f"deed {name} when yes" for name in "abcdefg")),
            (NoRange, "name x from 0 to 6 at 0"), (NoRange, "name x from 1 to 2 at 0"), (NoRange, "name x from 1 to 2 at 3"),
            (Twice, f"{X} ; {X}"), (Twice, "deed up when yes ; deed up when yes"),
            (Twice, f"{X} ; deed up when yes do x = 1 , x = 2"), (NoName, "keep x = 1"), (NoName, f"{X} ; keep @x = 1"),
            (NoName, "deed up when x = 1"), (NoName, f"{X} ; deed up when yes do y = 1"),
        ):
            self.assert_first(asked, text)
            self.assertIs(asked, refusal(read_machine, text))

    def test_refused_where_the_keeps_are_not_kept(self):
        for keeps, number, run in (
            ("keep x = 1", 0, ()), ("keep yes ; keep [ not yes ]", 1, ()), ("keep x < 2", 0, (("up", (1,)), ("up", (2,)))),
            ("keep x < 4 ; keep x != 3 ; keep x != 2", 2, (("up", (1,)), ("up", (2,)))),
        ):
            text = f"{X} ; {keeps} ; deed up when yes do x = ( x + 1 )"
            with self.assertRaises(Unkept) as caught:
                Bench(text)
            self.assertEqual((number, run), (caught.exception.number, caught.exception.run))
            self.assertEqual((number, run), unkept(read_machine(text)))

    def test_the_reader_s_refusals_go_first(self):
        self.assert_first(NoName, f"{X} ; keep x = 1 ; keep y = 1")
        self.assert_first(Twice, f"{X} ; {X} ; keep x = 1")
        self.assert_first(NoText, f"{X} ; keep x = 1 ;")
        self.assert_first(TooMany, f"{X} ; " + " ; ".join(["keep x = 1"] * 5))
        self.assert_first(NoRange, "name x from 0 to 6 at 0 ; keep x = 1")


class Further(Benches):
    def assert_refused_here(self, asked, text, tie_text, **fields):
        """Refused by a bench of UP, which then takes a good machine by the number that is due."""
        bench = Bench(UP)
        self.assert_refused(asked, bench, text, tie_text, fields)
        self.assertEqual(1, bench.nearer(UP, OWN_UP))
        self.assert_refused(asked, bench, text, tie_text, fields)
        self.assertEqual(2, bench.nearer(UP, OWN_UP))
        self.assertEqual([UP] * 3, [bench.text_of(number) for number in range(3)])

    def test_taken_with_its_number(self):
        bench = Bench(PLANS[0])
        for number in (1, 2, 3):
            told = bench.nearer(PLANS[number], TIES[number])
            self.assertEqual((number, int), (told, type(told)))
        self.assertEqual(4, number_of(bench))

    def test_tied_to_the_last_one(self):
        bench = chain_of(2)
        self.assertIs(NoName, refusal(bench.nearer, PLANS[1], TIES[1]))
        self.assertEqual(2, bench.nearer(PLANS[2], TIES[2]))

    def test_refused_as_read_machine_does(self):
        for asked, text in (
            (NoText, "name"), (NoText, "?"), (TooMany, f"keep {long_saying(300)}"), (TooMany, f"keep {squares(9)}"),
            (TooMany, " ; ".join(["keep yes"] * 5)), (NoRange, "name x from 0 to 6 at 0"), (Twice, f"{X} ; {X}"),
            (NoName, f"{X} ; keep y = 1"),
        ):
            self.assert_refused_here(asked, text, "tie yes ; falls 0")

    def test_refused_as_read_tie_does(self):
        for asked, tie_text in (
            (NoText, ""), (NoText, "tie yes"), (NoText, "tie yes ; step up for up"), (NoText, "?"), (NoText, f"{OWN_UP} ;"),
            (TooMany, f"tie {long_saying(297)} ; step up for up ; falls 0"), (TooMany, f"tie {squares(9)} ; step up for up ; falls 0"),
            (Twice, "tie yes ; step up for up ; step up for none ; falls 0"), (NoName, "tie y = 1 ; step up for up ; falls 0"),
            (NoName, "tie @y = 1 ; step up for up ; falls 0"), (NoName, "tie yes ; step up for up ; falls @x"),
            (NoName, "tie yes ; step up for down ; falls 0"), (NoName, "tie yes ; step up for up ; step down for up ; falls 0"),
            (NoStep, "tie yes ; falls 0"),
        ):
            self.assert_refused_here(asked, UP, tie_text)

    def test_refused_where_the_keeps_are_not_kept(self):
        for keeps, number, run in (("keep x = 1", 0, ()), ("keep yes ; keep x < 2", 1, (("up", (1,)), ("up", (2,))))):
            text = f"{X} ; {keeps} ; deed up when yes do x = ( x + 1 )"
            self.assert_refused_here(Unkept, text, OWN_UP, number=number, run=run)

    def test_refused_where_it_is_not_nearer(self):
        start = "tie @x = ( x + 1 ) ; step up for up ; falls 0"
        self.assert_refused_here(NotNearer, UP, start, verdict=("start",))
        self.assert_refused_here(NotNearer, X, "tie yes ; falls 0", verdict=("stop", ()))
        short = f"{X} ; deed up when x < 2 do x = ( x + 1 )"
        self.assert_refused_here(NotNearer, short, OWN_UP, verdict=("stop", (("up", (1,)), ("up", (2,)))))
        leap = f"{X} ; deed up when x < 2 do x = ( x + 1 ) ; deed leap when x = 2 do x = 0"
        self.assert_refused_here(NotNearer, leap, "tie @x = x ; step up for up ; step leap for up ; falls 0",
                                 verdict=("step", (("up", (1,)), ("up", (2,))), "leap", (0,)))

    def test_refused_where_there_is_too_much_to_look_through(self):
        grid = ("name x from 0 to 5 at 0 ; name y from 0 to 5 at 0 ; deed rest when yes ; "
                "deed gx when yes do x any x to ( x + 1 ) ; deed gy when yes do y any y to ( y + 1 )")
        near = ("name x from 0 to 5 at 0 ; name y from 0 to 5 at 0 ; deed nx when yes do x = ( x + 1 ) ; "
                "deed ny when yes do y = ( y + 1 ) ; deed gx when yes ; deed gy when yes")
        steps = "step nx for rest ; step ny for rest ; step gx for gx ; step gy for gy"
        bench = Bench(grid)
        self.assert_refused(TooMany, bench, near, f"tie yes ; {steps} ; falls 0")
        # Too much to look through goes ahead of a sum that doesn't fall.
        hush = near.replace("deed gx", "deed hush when yes ; deed gx")
        self.assert_refused(TooMany, bench, hush, f"tie yes ; {steps} ; step hush for none ; falls 0")
        self.assert_refused(Unkept, bench, near.replace(" ; deed nx", " ; keep x < 5 ; deed nx"),
                            f"tie yes ; {steps} ; falls 0", {"number": 0})
        self.assertEqual(1, bench.nearer("deed rest when yes", "tie yes ; step rest for rest ; falls 0"))

    def test_refused_where_the_sum_does_not_fall(self):
        hush = f"{X} ; name h from 0 to 2 at 2 ; deed up when yes do x = ( x + 1 ) ; deed hush when yes do h = ( h - 1 )"
        steps = "tie @x = x ; step up for up ; step hush for none ; falls"
        self.assert_refused_here(NotFalling, hush, f"{steps} 0", run=(), called="hush", room=(0, 1))
        self.assert_refused_here(NotFalling, hush, f"{steps} ( h - 1 )",
                                 run=(("hush", (0, 1)),), called="hush", room=(0, 0))
        self.assert_refused_here(NotFalling, hush, f"{steps} ( 2 - h )", run=(), called="hush", room=(0, 1))
        self.assertEqual(1, Bench(UP).nearer(hush, f"{steps} h"))

    def test_two_refusals_due_at_once(self):
        unkept_up = f"{X} ; keep x < 2 ; deed up when yes do x = ( x + 1 )"
        rest = f"{X} ; deed up when yes do x = ( x + 1 ) ; deed rest when yes"
        unkept_rest = rest.replace(" ; deed up", " ; keep x < 2 ; deed up")
        for asked, text, tie_text in (
            # The machine's text ahead of the tie's.
            (NoRange, "name x from 0 to 6 at 0", "?"), (NoName, f"{X} ; keep y = 1", "tie"), (Twice, f"{X} ; {X}", ""),
            (TooMany, " ; ".join(["keep yes"] * 5), "?"), (NoText, "name", f"tie {squares(9)} ; falls 0"),
            # The tie's text ahead of the keeps.
            (NoText, unkept_up, "?"), (TooMany, unkept_up, f"tie {squares(9)} ; step up for up ; falls 0"),
            (Twice, unkept_up, "tie yes ; step up for up ; step up for up ; falls 0"),
            (NoName, unkept_up, "tie y = 1 ; step up for up ; falls 0"), (NoStep, unkept_up, "tie yes ; falls 0"),
            # The tie's text ahead of what is not nearer and does not fall.
            (NoStep, rest, "tie [ not yes ] ; step rest for none ; falls 0"),
            # The keeps ahead of what is not nearer, and of what does not fall.
            (Unkept, unkept_up, "tie [ not yes ] ; step up for up ; falls 0"),
            (Unkept, unkept_rest, "tie @x = x ; step up for up ; step rest for none ; falls 0"),
            # What is not nearer ahead of what does not fall.
            (NotNearer, rest, "tie [ not yes ] ; step up for up ; step rest for none ; falls 0"),
            (NotNearer, rest, "tie @x = x ; step up for none ; step rest for none ; falls 0"),
            (NotFalling, rest, "tie @x = x ; step up for up ; step rest for none ; falls 0"),
        ):
            self.assert_refused_here(asked, text, tie_text)

    def test_refused_by_a_chain(self):
        bench = chain_of(3)
        hasty = TIES[3].replace("( 1 - seen )", "0")
        self.assert_refused(NotFalling, bench, PLANS[3], hasty, {"run": (("take", (3, 1, 0)),), "called": "look", "room": (3, 1, 1)})
        self.assert_refused(NotNearer, bench, PLANS[3], TIES[3].replace("look for none", "look for take"),
                            {"verdict": ("step", (("take", (3, 1, 0)),), "look", (3, 1, 1))})
        self.assert_refused(NoName, bench, PLANS[3], TIES[3].replace("@tool", "@seen"))
        self.assertEqual(3, bench.nearer(PLANS[3], TIES[3]))
        self.assertEqual(all_told(chain_of(4)), all_told(bench))


class Asked(Benches):
    def test_texts_as_shown(self):
        bench = Bench(blanks(PLANS[0], 2, 3, 1))
        for number in (1, 2, 3):
            bench.nearer(blanks(PLANS[number], 1, 2, 4), blanks(TIES[number], 0, 2, 3))
            for earlier in range(number + 1):
                self.assertEqual(PLANS[earlier], bench.text_of(earlier))
        self.assertEqual("", Bench("   ").text_of(0))

    def test_tables_to_the_first(self):
        for length in (1, 2, 3, 4):
            bench = chain_of(length)
            self.assertEqual(list(TABLES[:length]), [bench.table_of(number) for number in range(length)])
            for number in range(length):
                self.assertEqual([tuple, tuple], [type(bench.table_of(number)), type(bench.table_of(number)[0])])
        self.assertEqual((), Bench("").table_of(0))
        self.assertEqual(own_tie(read_machine(PLANS[1])).table, Bench(PLANS[1]).table_of(0))

    def test_runs(self):
        for length in (1, 2, 3, 4):
            bench = chain_of(length)
            for number in range(length):
                self.assertEqual(WHOLE_RUNS[:number + 1], bench.runs_of(number, WHOLE_RUNS[number]))
                self.assertEqual([()] * (number + 1), bench.runs_of(number, ()))

    def test_runs_of_quiet_steps_and_parts_of_a_run(self):
        bench = chain_of(4)
        machines = [read_machine(text) for text in PLANS]
        ties = [None] + [read_tie(TIES[number], machines[number - 1], machines[number]) for number in (1, 2, 3)]
        self.assertEqual([(), (), (("take", (3, 1)),), WHOLE_RUN[:2]], bench.runs_of(3, WHOLE_RUN[:2]))
        for length in range(len(WHOLE_RUN) + 1):
            runs = bench.runs_of(3, WHOLE_RUN[:length])
            self.assertEqual((list, 4), (type(runs), len(runs)))
            self.assertEqual(WHOLE_RUN[:length], runs[3])
            for number in (1, 2, 3):
                self.assertIs(tuple, type(runs[number - 1]))
                self.assert_followed(machines[number - 1], machines[number], ties[number], runs[number], runs[number - 1])

    def test_numbers_that_there_are_not(self):
        for length in (1, 2, 4):
            bench = chain_of(length)
            for number in (-5, -2, -1, length, length + 1, 99):
                self.assertIs(NoMachine, refusal(bench.text_of, number))
                self.assertIs(NoMachine, refusal(bench.table_of, number))
                self.assertIs(NoMachine, refusal(bench.runs_of, number, ()))
                # Ahead of NoRun.
                self.assertIs(NoMachine, refusal(bench.runs_of, number, (("fly", (9,)),)))
            for number in range(length):
                self.assertEqual(PLANS[number], bench.text_of(number))

    def test_what_is_no_run(self):
        bench = chain_of(4)
        for number in range(4):
            for run in ((("fly", (0,)),), (WHOLE_RUNS[number][0], WHOLE_RUNS[number][0]), (("work", (0,)),)):
                self.assertIs(NoRun, refusal(bench.runs_of, number, run))
            for other in range(4):
                if other != number:
                    self.assertIs(NoRun, refusal(bench.runs_of, number, WHOLE_RUNS[other]))
            for left_out in range(len(WHOLE_RUNS[number]) - 1):
                run = WHOLE_RUNS[number][:left_out] + WHOLE_RUNS[number][left_out + 1:]
                self.assertIs(NoRun, refusal(bench.runs_of, number, run))

    def test_the_asker_s_own(self):
        bench = chain_of(4)
        ahead = all_told(bench)
        for number in range(4):
            told = bench.runs_of(number, WHOLE_RUNS[number])
            told[0] = None
            told.clear()
            self.assertEqual(WHOLE_RUNS[:number + 1], bench.runs_of(number, WHOLE_RUNS[number]))
        self.assertEqual(ahead, all_told(bench))

    def test_what_was_told_stays(self):
        bench = Bench(PLANS[0])
        texts, tables, runs = bench.text_of(0), bench.table_of(0), bench.runs_of(0, WHOLE_RUNS[0])
        for number in (1, 2, 3):
            bench.nearer(PLANS[number], TIES[number])
            self.assertEqual((texts, tables, runs), (bench.text_of(0), bench.table_of(0), bench.runs_of(0, WHOLE_RUNS[0])))
        self.assertEqual((PLANS[0], TABLES[0], WHOLE_RUNS[:1]), (texts, tables, runs))

    def test_two_benches_keep_apart(self):
        one, other = chain_of(1), chain_of(1)
        one.nearer(PLANS[1], TIES[1])
        self.assertEqual((2, 1), (number_of(one), number_of(other)))
        other.nearer(UP.replace("yes", "x = 0"), "tie @done = x ; step up for work ; falls 0")
        self.assertEqual(PLANS[1], one.text_of(1))
        self.assertEqual((("up", "work"),), other.table_of(1))

    def test_where_the_far_one_stops_only_one_way(self):
        far = f"{X} ; deed go when x = 0 do x any 1 to 3 ; deed on when [ x = 1 or x = 3 ]"
        middle = f"{X} ; deed go when x = 0 do x any 1 to 2 ; deed on when x = 1"
        near = "name n from 0 to 1 at 0 ; deed go when n = 0 do n = 1"
        bench = Bench(far)
        self.assertEqual(1, bench.nearer(middle, "tie yes ; step go for go ; step on for on ; falls 0"))
        self.assertEqual(2, bench.nearer(near, "tie yes ; step go for go ; falls 0"))
        self.assertEqual([(("go", (2,)),), (("go", (2,)),), (("go", (1,)),)], bench.runs_of(2, (("go", (1,)),)))

    def test_long_runs(self):
        far = "name f from 0 to 1 at 0 ; deed turn when yes do f = ( 1 - f )"
        near = "name n from 0 to 2 at 2 ; deed tick when yes do n = ( n - 1 ) ; deed turn when n = 0 do n = 2"
        bench = Bench(far)
        bench.nearer(near, "tie yes ; step tick for none ; step turn for turn ; falls n")
        run = (("tick", (1,)), ("tick", (0,)), ("turn", (2,))) * 100
        self.assertEqual([(("turn", (1,)), ("turn", (0,))) * 50, run], bench.runs_of(1, run))


class Whole(Benches):
    """Point 3, from texts of three machines and two ties to papers, runs and benches."""

    def test_the_told_plans(self):
        machines = [read_machine(text) for text in PLANS]
        table, pairs = own_tie(machines[0]).table, [(room, room) for room in sorted(rooms_come_to(machines[0]))]
        for number in (1, 2, 3):
            tie = read_tie(TIES[number], machines[number - 1], machines[number])
            self.assertEqual("nearer", checked(machines[number - 1], machines[number], tie)[0])
            paper = paper_of(machines[number - 1], machines[number], tie)
            self.assertIs(True, is_paper(machines[number - 1], machines[number], tie, paper))
            table, pairs = joined_tables(table, tie.table), joined_pairs(pairs, paper)
            self.assertIs(True, is_closed(machines[0], machines[number], table, pairs))
            self.assertEqual(rooms_come_to(machines[number]), {room for far_room, room in pairs})
            self.assertEqual("levels", levels_of(machines[number], table)[0])
            self.assertEqual(TABLES[number], table)

    def test_many_chains(self):
        found = {}
        for number in range(250):
            far, middle, near, to_far, to_middle = some_chain(number)
            bench = Bench(shown_machine(far))
            taken = self.assert_further(bench, far, middle, to_far, found)
            if taken:
                taken = self.assert_further(bench, middle, near, to_middle, found)
            if taken:
                self.assert_chain(bench, (far, middle, near), (to_far, to_middle))
        self.assertEqual({"stop", "step", "falls", "taken"}, set(found))

    def assert_further(self, bench, far, near, tie, found):
        """Taken just where it is nearer and the sum falls, and what is told of it is so."""
        number = number_of(bench)
        verdict, fault = checked(far, near, tie), not_falling(near, tie)
        told = verdict[0] if verdict[0] != "nearer" else "taken" if fault is None else "falls"
        found[told] = found.get(told, 0) + 1
        if told == "taken":
            self.assertEqual(number, bench.nearer(shown_machine(near), shown_tie(tie)))
            return True
        ahead = all_told(bench)
        with self.assertRaises(WorkError) as caught:
            bench.nearer(shown_machine(near), shown_tie(tie))
        self.assertEqual(ahead, all_told(bench))
        if told == "falls":
            error = caught.exception
            self.assertEqual((NotFalling, fault), (type(error), (error.run, error.called, error.room)))
        else:
            self.assertEqual((NotNearer, verdict), (type(caught.exception), caught.exception.verdict))
            if told == "step":
                self.assertTrue(go_on(near, verdict[1] + (verdict[2:],)))
                self.assertEqual(set(), far_ends(far, near, tie, verdict[1] + (verdict[2:],)))
        return False

    def assert_chain(self, bench, machines, ties):
        far, middle, near = machines
        table = joined_tables(ties[0].table, ties[1].table)
        self.assertEqual([own_tie(far).table, ties[0].table, table], [bench.table_of(number) for number in range(3)])
        self.assertEqual([shown_machine(machine) for machine in machines], [bench.text_of(number) for number in range(3)])
        self.assertEqual("levels", levels_of(near, table)[0])
        for run in some_runs(near, 10, random.Random(25)):
            runs = bench.runs_of(2, run)
            self.assertEqual((3, run), (len(runs), runs[2]))
            self.assert_followed(middle, near, ties[1], run, runs[1])
            self.assert_followed(far, middle, ties[0], runs[1], runs[0])
            self.assertEqual(runs[1], tuple(step for step in followed(middle, near, ties[1], run) if step is not None))
            self.assertEqual(runs[:2], bench.runs_of(1, runs[1]))
        one, other = paper_of(far, middle, ties[0]), paper_of(middle, near, ties[1])
        if one is not None and other is not None:
            pairs = joined_pairs(one, other)
            self.assertIs(True, is_closed(far, near, table, pairs))
            self.assertEqual(rooms_come_to(near), {room for far_room, room in pairs})


if __name__ == "__main__":
    unittest.main()
