"""Point 19, and point 2 of what is handed in."""

import itertools
import random
import unittest

from nearerwork.machinetexts import read_machine, shown_machine
from nearerwork.papers import is_closed, is_paper
from nearerwork.tietexts import read_tie, shown_tie
from tests.helper import all_rooms, closed_by_point_19, fits_among, holds_by, some_pairs

X = "name x from 0 to 3 at 0"
UP = f"{X} ; deed up when yes do x = ( x + 1 )"
OWN_UP = [((value,), (value,)) for value in range(4)]
# The far one turns once; the near one counts down to it, and turns.
FAR = "name f from 0 to 1 at 0 ; deed turn when f = 0 do f = 1"
NEAR = ("name n from 0 to 3 at 3 ; deed tick when 1 < n do n = ( n - 1 ) ; deed turn when n = 1 do n = 0")
TABLE = (("tick", None), ("turn", "turn"))
PAPER = [((0,), (1,)), ((0,), (2,)), ((0,), (3,)), ((1,), (0,))]


def greatest(far, near, tie):
    """All pairs of rooms, tied or not, that fit among one another."""
    pairs = list(itertools.product(all_rooms(far), all_rooms(near)))
    while True:
        among = set(pairs)
        kept = [pair for pair in pairs if fits_among(far, near, tie.table, pair, among)]
        if kept == pairs:
            return pairs
        pairs = kept


class Closed(unittest.TestCase):
    def assert_closed(self, asked, far_text, near_text, table, pairs):
        far, near = read_machine(far_text), read_machine(near_text)
        kept = list(pairs)
        self.assertIs(asked, is_closed(far, near, table, pairs))
        self.assertIs(asked, is_closed(far, near, table, pairs))
        self.assertIs(asked, closed_by_point_19(far, near, table, pairs))
        self.assertEqual(kept, pairs)
        self.assertEqual((far_text, near_text), (shown_machine(far), shown_machine(near)))

    def test_closed(self):
        self.assert_closed(True, UP, UP, (("up", "up"),), OWN_UP)
        self.assert_closed(True, FAR, NEAR, TABLE, PAPER)
        self.assert_closed(True, "", "", (), [((), ())])
        self.assert_closed(True, X, X, (), [((0,), (0,))])
        self.assert_closed(True, "deed go when yes", "deed go when yes", (("go", "go"),), [((), ())])

    def test_the_empty_list(self):
        for far, near, table in ((UP, UP, (("up", "up"),)), (FAR, NEAR, TABLE), ("", "", ())):
            self.assert_closed(False, far, near, table, [])

    def test_without_the_first_rooms(self):
        self.assert_closed(False, UP, UP, (("up", "up"),), OWN_UP[1:])
        self.assert_closed(False, UP, UP, (("up", "up"),), OWN_UP[3:])
        self.assert_closed(False, FAR, NEAR, TABLE, PAPER[:2] + PAPER[3:])
        # The first rooms, but not paired with one another.
        self.assert_closed(False, X.replace("at 0", "at 1"), X, (), [((0,), (0,)), ((1,), (1,))])
        self.assert_closed(True, X.replace("at 0", "at 1"), X, (), [((0,), (0,)), ((1,), (0,)), ((1,), (1,))])

    def test_not_rising(self):
        for order in itertools.permutations(PAPER):
            self.assert_closed(list(order) == PAPER, FAR, NEAR, TABLE, list(order))
        self.assert_closed(False, UP, UP, (("up", "up"),), OWN_UP[::-1])

    def test_a_pair_twice(self):
        for number in range(4):
            self.assert_closed(False, FAR, NEAR, TABLE, PAPER[:number] + PAPER[number:number + 1] + PAPER[number:])
        self.assert_closed(False, "", "", (), [((), ()), ((), ())])
        self.assert_closed(False, FAR, NEAR, TABLE, PAPER + PAPER)

    def test_one_left_out(self):
        for number in range(4):
            self.assert_closed(False, FAR, NEAR, TABLE, PAPER[:number] + PAPER[number + 1:])
            self.assert_closed(False, UP, UP, (("up", "up"),), OWN_UP[:number] + OWN_UP[number + 1:])

    def test_one_too_many(self):
        # ((0,), (0,)): the near one stops, the far one goes on. ((1,), (n,)): turn isn't answered from there.
        for pair, asked in ((((0,), (0,)), False), (((1,), (1,)), False), (((1,), (2,)), False), (((1,), (3,)), False)):
            self.assert_closed(asked, FAR, NEAR, TABLE, sorted(PAPER + [pair]))
        # Of up from 1 by the far machine, and from 0 by the near one, (2, 1) is asked for.
        self.assert_closed(False, UP, UP, (("up", "up"),), sorted(OWN_UP + [((1,), (0,))]))
        self.assert_closed(False, UP, UP, (("up", "up"),), sorted(OWN_UP + [((0,), (1,))]))
        # Where the near one stops behind three and the far one stops too.
        self.assert_closed(True, UP, UP, (("up", "up"),), OWN_UP)

    def test_one_more_that_has_what_it_needs(self):
        rooms = [((far,), (near,)) for far in range(4) for near in range(4)]
        still = f"{X} ; deed rest when yes"
        for number in range(1, 16):
            self.assert_closed(True, still, still, (("rest", "rest"),), rooms[:number])

    def test_only_where_the_near_one_stops_must_the_far_one(self):
        go = "deed go when yes"
        self.assert_closed(False, go, "", (), [((), ())])
        self.assert_closed(True, "", go, (("go", None),), [((), ())])
        self.assert_closed(False, UP, X, (), [((0,), (0,))])
        self.assert_closed(False, UP, X, (), [((0,), (0,)), ((3,), (0,))])
        self.assert_closed(True, UP.replace("at 0", "at 3"), X, (), [((3,), (0,))])
        self.assert_closed(True, X, UP, (("up", None),), [((0,), (value,)) for value in range(4)])

    def test_quiet_deeds_need_the_same_far_room(self):
        near = "name n from 0 to 1 at 0 ; deed hush when n = 0 do n = 1"
        self.assert_closed(True, X, near, (("hush", None),), [((0,), (0,)), ((0,), (1,))])
        self.assert_closed(False, X, near, (("hush", None),), [((0,), (0,)), ((1,), (1,))])
        self.assert_closed(False, X, near, (("hush", None),), [((0,), (0,))])
        # By a deed that stays, and one that goes on.
        far = f"{X} ; deed rest when x = 0 ; deed up when x = 0 do x = 1"
        near = "name n from 0 to 1 at 0 ; deed hush when n = 0 do n = 1 ; deed on when n = 1"
        self.assert_closed(True, far, near, (("hush", None), ("on", "rest")), [((0,), (0,)), ((0,), (1,))])
        self.assert_closed(False, far, near, (("hush", "up"), ("on", "rest")), [((0,), (0,)), ((0,), (1,))])
        self.assert_closed(False, far, near, (("hush", "up"), ("on", "rest")), [((0,), (0,)), ((1,), (1,))])
        self.assert_closed(True, far, near, (("hush", "up"), ("on", None)), [((0,), (0,)), ((1,), (1,))])

    def test_each_deed_by_what_it_stands_for(self):
        far = f"{X} ; deed one when x = 0 do x = 1 ; deed two when x = 0 do x = 2"
        near = "name n from 0 to 1 at 0 ; deed go when n = 0 do n = 1"
        for stood_for, value in (("one", 1), ("two", 2)):
            for other in range(4):
                self.assert_closed(value == other, far, near, (("go", stood_for),), sorted({((0,), (0,)), ((other,), (1,))}))

    def test_one_far_room_of_several_is_enough(self):
        far = f"{X} ; deed go when x = 0 do x any 1 to 3"
        near = "name n from 0 to 1 at 0 ; deed go when n = 0 do n = 1"
        for value in range(4):
            self.assert_closed(value > 0, far, near, (("go", "go"),), [((0,), (0,)), ((value,), (1,))])

    def test_each_near_room_behind_needs_one(self):
        near = f"{X} ; deed go when x = 0 do x any 1 to 3"
        far = "name f from 0 to 1 at 0 ; deed go when f = 0 do f = 1"
        pairs = [((0,), (0,)), ((1,), (1,)), ((1,), (2,)), ((1,), (3,))]
        self.assert_closed(True, far, near, (("go", "go"),), pairs)
        for number in range(4):
            self.assert_closed(False, far, near, (("go", "go"),), pairs[:number] + pairs[number + 1:])

    def test_rooms_that_are_not_come_to_count_too(self):
        near = f"{X} ; deed on when 1 < x do x = ( x - 1 )"
        far = f"{X} ; deed on when yes"
        far_stops = X
        self.assert_closed(True, far_stops, near, (("on", None),), [((0,), (0,))])
        self.assert_closed(False, far_stops, near, (("on", None),), [((0,), (0,)), ((0,), (2,))])
        self.assert_closed(True, far_stops, near, (("on", None),), [((0,), (0,)), ((0,), (1,)), ((0,), (2,))])
        self.assert_closed(False, far, near, (("on", None),), [((0,), (0,))])

    def test_all_rooms_of_216(self):
        names = " ; ".join(f"name {name} from 0 to 5 at 0" for name in "xyz")
        text = f"{names} ; deed go when yes do x any 0 to 5 , y any 0 to 5 , z any 0 to 5"
        machine = read_machine(text)
        pairs = [(room, room) for room in all_rooms(machine)]
        self.assertIs(True, is_closed(machine, machine, (("go", "go"),), pairs))
        self.assertIs(False, is_closed(machine, machine, (("go", "go"),), pairs[:-1]))
        self.assertIs(False, is_closed(machine, machine, (("go", None),), pairs))


class Papers(unittest.TestCase):
    def assert_paper(self, asked, saying, pairs, far_text=FAR, near_text=NEAR, steps="step tick for none ; step turn for turn"):
        far, near = read_machine(far_text), read_machine(near_text)
        tie = read_tie(f"tie {saying} ; {steps} ; falls 0", far, near)
        kept = list(pairs)
        self.assertIs(asked, is_paper(far, near, tie, pairs))
        self.assertEqual(kept, pairs)

    def test_closed_and_tied(self):
        self.assert_paper(True, "yes", PAPER)
        self.assert_paper(True, "[ [ @f = 0 and 0 < n ] or [ @f = 1 and n = 0 ] ]", PAPER)
        self.assert_paper(True, "yes", OWN_UP, UP, UP, "step up for up")
        self.assert_paper(True, "@x = x", OWN_UP, UP, UP, "step up for up")

    def test_closed_with_a_pair_that_is_not_tied(self):
        for far_room, room in PAPER:
            self.assert_paper(False, f"[ not [ @f = {far_room[0]} and n = {room[0]} ] ]", PAPER)
        self.assert_paper(False, "[ not yes ]", PAPER)

    def test_tied_and_not_closed(self):
        self.assert_paper(False, "yes", [])
        for number in range(4):
            self.assert_paper(False, "yes", PAPER[:number] + PAPER[number + 1:])
        self.assert_paper(False, "yes", PAPER[::-1])
        self.assert_paper(False, "yes", PAPER + PAPER[-1:])

    def test_by_the_table_of_the_tie(self):
        self.assert_paper(False, "yes", PAPER, steps="step tick for turn ; step turn for turn")
        self.assert_paper(False, "yes", PAPER, steps="step tick for none ; step turn for none")


class SecondReckoning(unittest.TestCase):
    def test_many_lists(self):
        chance = random.Random(19)
        found = {True: 0, False: 0}
        papers = {True: 0, False: 0}
        for far, near, tie in some_pairs(200) + some_pairs(60, rooms=4):
            most = greatest(far, near, tie)
            tied = [pair for pair in most if holds_by(far, near, tie, *pair)]
            lists = [most, tied, sorted(set(most + [(far.first(), near.first())]))]
            if most:
                lists += [[pair for pair in most if pair != left_out] for left_out in chance.sample(most, min(4, len(most)))]
                lists += [sorted(chance.sample(most, chance.randint(1, len(most)))), most + most[-1:]]
            shown = (shown_machine(far), shown_machine(near), shown_tie(tie))
            for pairs in lists:
                with self.subTest(far=shown[0], near=shown[1], tie=shown[2], pairs=pairs):
                    asked = closed_by_point_19(far, near, tie.table, pairs)
                    found[asked] += 1
                    self.assertIs(asked, is_closed(far, near, tie.table, pairs))
                    paper = asked and all(holds_by(far, near, tie, *pair) for pair in pairs)
                    papers[paper] += 1
                    self.assertIs(paper, is_paper(far, near, tie, pairs))
            self.assertEqual(shown, (shown_machine(far), shown_machine(near), shown_tie(tie)))
        self.assertTrue(min(found.values()) > 200, found)
        self.assertTrue(found[True] - papers[True] > 50, papers)


if __name__ == "__main__":
    unittest.main()
