"""Points 20 and 21, with point 3 as far as it speaks of papers, and point 2 of what is told."""

import itertools
import unittest

from nearerwork.checking import checked
from nearerwork.errors import TooMany
from nearerwork.finding import paper_of
from nearerwork.machinetexts import read_machine, shown_machine
from nearerwork.papers import is_closed, is_paper
from nearerwork.sayings import Saying
from nearerwork.ties import Tie
from nearerwork.tietexts import read_tie, shown_tie
from tests.helper import closed_by_point_19, fits_among, goes, holds_by, refusal, rooms_come_to, some_pairs, steps_of

X = "name x from 0 to 3 at 0"
UP = f"{X} ; deed up when yes do x = ( x + 1 )"
PAIRS = some_pairs(250) + some_pairs(120, rooms=4)
PLAIN = some_pairs(200, free=0) + some_pairs(80, rooms=4, free=0)
# Ties that leave the far machine more ways.
LOOSE = [(far, near, Tie(Saying(), tie.table, tie.falling)) for far, near, tie in some_pairs(60, rooms=4, free=0.8)]


def read(far_text, near_text, tie_text):
    far, near = read_machine(far_text), read_machine(near_text)
    return far, near, read_tie(tie_text, far, near)


def told(far_text, near_text, tie_text):
    return paper_of(*read(far_text, near_text, tie_text))


def tied_pairs(far, near, tie):
    rooms = itertools.product(rooms_come_to(far), rooms_come_to(near))
    return {pair for pair in rooms if holds_by(far, near, tie, *pair)}


def far_behind(far, table, far_room, called):
    stood_for = dict(table)[called]
    return [far_room] if stood_for is None else far.behind(far_room, stood_for)


def told_by_point_21(far, near, tie):
    """The second reckoning: pairs are struck out one by one, and all are looked at again behind each."""
    most = tied_pairs(far, near, tie)
    left = sorted(most)
    while left:
        pair = left.pop()
        if not fits_among(far, near, tie.table, pair, most):
            most.remove(pair)
            left = sorted(most)
    first = (far.first(), near.first())
    if first not in most:
        return None
    reached, fresh = set(), {first}
    while fresh:
        reached |= fresh
        fresh = {
            (one, behind) for far_room, room in fresh for called, behind in steps_of(near, room)
            for one in far_behind(far, tie.table, far_room, called)} & most - reached
    return sorted(reached)


def most_by_all_lists(far, near, tie):
    """All pairs of all lists whose pairs fit, the first rooms set aside; for few pairs alone."""
    pairs = sorted(tied_pairs(far, near, tie))
    most = set()
    for length in range(1, len(pairs) + 1):
        for some in itertools.combinations(pairs, length):
            among = set(some)
            if not among <= most and all(fits_among(far, near, tie.table, pair, among) for pair in among):
                most |= among
    return most


def counting(rooms):
    """A machine that comes to so many rooms, one behind the other."""
    names = " ; ".join(f"name {name} from 0 to 5 at 0" for name in "xyz")
    below = f"( ( 36 * x ) + ( ( 6 * y ) + z ) ) < ( ( 36 * {(rooms - 1) // 36} ) + {(rooms - 1) % 36} )"
    return (f"{names} ; deed ones when [ z < 5 and {below} ] do z = ( z + 1 ) ; "
            f"deed tens when [ z = 5 and [ y < 5 and {below} ] ] do y = ( y + 1 ) , z = 0 ; "
            f"deed more when [ z = 5 and [ y = 5 and {below} ] ] do x = ( x + 1 ) , y = 0 , z = 0")


class Found(unittest.TestCase):
    def test_itself(self):
        own = [((value,), (value,)) for value in range(4)]
        self.assertEqual(own, told(UP, UP, "tie @x = x ; step up for up ; falls 0"))
        self.assertEqual([((), ())], told("", "", "tie yes ; falls 0"))
        self.assertEqual([((0,), (0,))], told(X, X, "tie yes ; falls 0"))

    def test_a_nearer_plan(self):
        far = "name f from 0 to 1 at 0 ; deed turn when f = 0 do f = 1"
        near = "name n from 0 to 3 at 3 ; deed tick when 1 < n do n = ( n - 1 ) ; deed turn when n = 1 do n = 0"
        steps = "step tick for none ; step turn for turn ; falls n"
        asked = [((0,), (1,)), ((0,), (2,)), ((0,), (3,)), ((1,), (0,))]
        self.assertEqual(asked, told(far, near, f"tie yes ; {steps}"))
        self.assertEqual(asked, told(far, near, f"tie [ [ @f = 0 and 0 < n ] or [ @f = 1 and n = 0 ] ] ; {steps}"))
        self.assertIs(None, told(far, near, f"tie [ @f = 0 and 0 < n ] ; {steps}"))

    def test_first_rooms_not_tied(self):
        self.assertIs(None, told(UP, UP, "tie @x = ( x + 1 ) ; step up for up ; falls 0"))
        self.assertIs(None, told(X, X, "tie [ not yes ] ; falls 0"))
        self.assertIs(None, told("", "", "tie 1 = 2 ; falls 0"))

    def test_first_rooms_fall_away(self):
        self.assertIs(None, told(UP, X, "tie yes ; falls 0"))
        self.assertIs(None, told(X, UP, "tie @x = x ; step up for none ; falls 0"))
        # The near one has one step more than the far one: all pairs of the way fall, the last one first.
        self.assertIs(None, told("name x from 0 to 2 at 0 ; deed up when yes do x = ( x + 1 )", UP,
                                 "tie yes ; step up for up ; falls 0"))
        self.assertIs(None, told(UP, "name x from 0 to 2 at 0 ; deed up when yes do x = ( x + 1 )",
                                 "tie yes ; step up for up ; falls 0"))

    def test_pairs_fall_away_behind_others(self):
        # A near run of five steps; the far machine may pick a way that ends one step too soon.
        far = ("name w from 0 to 1 at 0 ; name n from 0 to 5 at 0 ; deed go when [ n < 4 or [ n = 4 and w = 0 ] ] "
               "do n = ( n + 1 ) ; deed pick when n = 0 do n = 1 , w any 0 to 1")
        near = "name n from 0 to 5 at 0 ; deed pick when n = 0 do n = 1 ; deed go when [ 0 < n and n < 5 ] do n = ( n + 1 )"
        paper = told(far, near, "tie yes ; step pick for pick ; step go for go ; falls 0")
        self.assertEqual([((0, value), (value,)) for value in range(6)], paper)

    def test_only_pairs_that_are_come_to(self):
        # Each pair fits, but only those of alike values are come to from the first.
        turn = "name x from 0 to 1 at 0 ; deed turn when yes do x = ( 1 - x )"
        self.assertEqual([((0,), (0,)), ((1,), (1,))], told(turn, turn, "tie yes ; step turn for turn ; falls 0"))
        self.assertEqual([((0,), (0,)), ((0,), (1,))], told(turn, turn, "tie yes ; step turn for none ; falls 0"))

    def test_all_answers_are_come_to(self):
        far = f"{X} ; deed go when x = 0 do x any 1 to 3"
        near = "name n from 0 to 1 at 0 ; deed go when n = 0 do n = 1"
        self.assertEqual([((0,), (0,)), ((1,), (1,)), ((2,), (1,)), ((3,), (1,))],
                         told(far, near, "tie yes ; step go for go ; falls 0"))
        # An answer that isn't tied or that falls away is none.
        self.assertEqual([((0,), (0,)), ((1,), (1,)), ((3,), (1,))], told(far, near, "tie @x != 2 ; step go for go ; falls 0"))
        far = f"{X} ; deed go when x = 0 do x any 1 to 3 ; deed on when x = 2"
        self.assertEqual([((0,), (0,)), ((1,), (1,)), ((3,), (1,))], told(far, near, "tie yes ; step go for go ; falls 0"))

    def test_rising_not_as_they_are_met(self):
        down = "name x from 0 to 3 at 3 ; deed down when yes do x = ( x - 1 )"
        self.assertEqual([((value,), (value,)) for value in range(4)], told(down, down, "tie yes ; step down for down ; falls 0"))

    def test_rooms_that_are_not_come_to_are_left_out(self):
        near = f"{X} ; deed rest when x = 0"
        far = f"{X} ; deed rest when yes"
        self.assertEqual([((0,), (0,))], told(far, near, "tie yes ; step rest for rest ; falls 0"))

    def test_looking_through_tells_nearer_and_there_is_no_paper(self):
        # The far machine picks one or two at once; the near one leaves it open for one step more.
        far = (f"{X} ; deed pick when x = 0 do x any 1 to 2 ; deed one when x = 1 do x = 3 ; deed two when x = 2 do x = 3")
        near = ("name n from 0 to 2 at 0 ; deed pick when n = 0 do n = 1 ; deed one when n = 1 do n = 2 ; "
                "deed two when n = 1 do n = 2")
        pair = read(far, near, "tie yes ; step pick for pick ; step one for one ; step two for two ; falls 0")
        self.assertEqual(("nearer", 3), checked(*pair))
        self.assertIs(None, paper_of(*pair))

    def test_stops(self):
        # Where the near one stops, the far one has to: the way over 1 stops, that over 2 doesn't.
        far = f"{X} ; deed go when x = 0 do x any 1 to 2 ; deed on when x = 2"
        near = "name n from 0 to 1 at 0 ; deed go when n = 0 do n = 1"
        self.assertEqual([((0,), (0,)), ((1,), (1,))], told(far, near, "tie yes ; step go for go ; falls 0"))
        self.assertIs(None, told(far, near, "tie @x != 1 ; step go for go ; falls 0"))

    def test_the_asker_s_own(self):
        pair = read(UP, UP, "tie @x = x ; step up for up ; falls 0")
        paper = paper_of(*pair)
        self.assertIs(list, type(paper))
        paper.append(None)
        paper[0] = 7
        self.assertEqual([((value,), (value,)) for value in range(4)], paper_of(*pair))


class Bounds(unittest.TestCase):
    def assert_bound(self, far_rooms, near_rooms):
        far, near = read_machine(counting(far_rooms)), read_machine(counting(near_rooms))
        self.assertEqual((far_rooms, near_rooms), (len(rooms_come_to(far)), len(rooms_come_to(near))))
        steps = "step ones for none ; step tens for none ; step more for none"
        for saying in ("yes", "[ not yes ]", "@x = x"):
            tie = read_tie(f"tie {saying} ; {steps} ; falls 0", far, near)
            if far_rooms * near_rooms > 2000:
                self.assertIs(TooMany, refusal(paper_of, far, near, tie))
            else:
                self.assertIs(None, refusal(paper_of, far, near, tie))

    def test_just_2000(self):
        for far_rooms, near_rooms in ((40, 50), (50, 40), (10, 200), (200, 10), (20, 100), (1, 216), (44, 45)):
            self.assert_bound(far_rooms, near_rooms)

    def test_just_above(self):
        for far_rooms, near_rooms in ((29, 69), (69, 29), (87, 23), (45, 45), (10, 201), (216, 216)):
            self.assert_bound(far_rooms, near_rooms)

    def test_only_rooms_that_are_come_to_count(self):
        names = " ; ".join(f"name {name} from 0 to 5 at 0" for name in "xyz")
        self.assertEqual([((0, 0, 0), (0, 0, 0))], told(names, names, "tie yes ; falls 0"))

    def test_itself_with_many_rooms(self):
        text = counting(44)
        steps = "step ones for ones ; step tens for tens ; step more for more"
        own = told(text, text, f"tie yes ; {steps} ; falls 0")
        self.assertEqual([(room, room) for room in sorted(rooms_come_to(read_machine(text)))], own)

    def test_many_pairs_fall_one_behind_another(self):
        # The far machine never stops and the near one does, behind 200 steps.
        far = "name x from 0 to 4 at 0 ; name y from 0 to 1 at 0 ; deed go when yes do x any 0 to 4 , y any 0 to 1"
        steps = "step ones for go ; step tens for go ; step more for go"
        self.assertIs(None, told(far, counting(200), f"tie yes ; {steps} ; falls 0"))

    def test_all_ways_from_all_rooms(self):
        names = " ; ".join(f"name {name} from 0 to 5 at 0" for name in "xyz")
        near = f"{names} ; deed go when yes do x any 0 to 5 , y any 0 to 5 , z any 0 to 5"
        far = "name x from 0 to 2 at 0 ; name y from 0 to 2 at 0 ; deed go when yes do x any 0 to 2 , y any 0 to 2"
        paper = told(far, near, "tie yes ; step go for go ; falls 0")
        rooms = itertools.product(itertools.product(range(3), repeat=2), itertools.product(range(6), repeat=3))
        self.assertEqual(sorted(rooms), paper)


class SecondReckoning(unittest.TestCase):
    def test_the_same_is_told(self):
        found = {True: 0, False: 0}
        for far, near, tie in PAIRS + PLAIN + LOOSE:
            shown = (shown_machine(far), shown_machine(near), shown_tie(tie))
            with self.subTest(far=shown[0], near=shown[1], tie=shown[2]):
                asked = told_by_point_21(far, near, tie)
                found[asked is None] += 1
                self.assertEqual(asked, paper_of(far, near, tie))
                self.assertEqual(asked, paper_of(far, near, tie))
                self.assertEqual(shown, (shown_machine(far), shown_machine(near), shown_tie(tie)))
        self.assertTrue(min(found.values()) > 80, found)

    def test_what_is_told_is_a_paper(self):
        for far, near, tie in PAIRS + PLAIN + LOOSE:
            paper = paper_of(far, near, tie)
            if paper is not None:
                self.assertTrue(closed_by_point_19(far, near, tie.table, paper))
                self.assertTrue(all(holds_by(far, near, tie, *pair) for pair in paper))
                self.assertIs(True, is_closed(far, near, tie.table, paper))
                self.assertIs(True, is_paper(far, near, tie, paper))

    def test_where_there_is_a_paper_looking_through_tells_nearer(self):
        for far, near, tie in PAIRS:
            if paper_of(far, near, tie) is not None:
                self.assertEqual("nearer", checked(far, near, tie)[0])

    def test_without_an_any_just_where_looking_through_tells_nearer(self):
        found = {True: 0, False: 0}
        for far, near, tie in PLAIN:
            self.assertNotIn("any", shown_machine(far))
            nearer = checked(far, near, tie)[0] == "nearer"
            found[nearer] += 1
            self.assertIs(nearer, paper_of(far, near, tie) is not None)
        self.assertTrue(min(found.values()) > 40, found)

    def test_where_it_is_none_no_list_is_a_paper(self):
        found = {True: 0, False: 0}
        for far, near, tie in PAIRS:
            if 1 < len(tied_pairs(far, near, tie)) < 10:
                first = (far.first(), near.first())
                there_is_one = first in most_by_all_lists(far, near, tie)
                found[there_is_one] += 1
                self.assertIs(there_is_one, paper_of(far, near, tie) is not None)
        self.assertTrue(min(found.values()) > 8, found)

    def test_each_near_room_is_tied_to_a_far_one(self):
        for far, near, tie in PAIRS:
            paper = paper_of(far, near, tie)
            if paper is not None:
                self.assertEqual(rooms_come_to(near), {room for far_room, room in paper})
                self.assertTrue({far_room for far_room, room in paper} <= rooms_come_to(far))
                self.assertTrue(all(goes(near, room) or not goes(far, far_room) for far_room, room in paper))


if __name__ == "__main__":
    unittest.main()
