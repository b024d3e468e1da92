"""Points 22 and 23, with point 3 as far as it speaks of them, and point 2 of what is told."""

import itertools
import random
import unittest

from nearerwork.chains import joined_pairs, joined_tables, own_pairs, own_tie
from nearerwork.checking import checked
from nearerwork.finding import paper_of
from nearerwork.levels import levels_of
from nearerwork.machinetexts import read_machine, shown_machine
from nearerwork.papers import is_closed, is_paper
from nearerwork.phrases import read_saying
from nearerwork.tietexts import read_tie, shown_tie
from tests.helper import closed_by_point_19, rooms_come_to, some_chain, some_pairs

CHAINS = [some_chain(number) for number in range(300)]
MACHINES = ("", "deed go when yes", "name x from 0 to 3 at 2", "name x from 0 to 3 at 2 ; deed down when yes do x = ( x - 1 )",
            "name x from 0 to 2 at 1 ; name y from 1 to 3 at 3 ; deed b when yes do x any 0 to y ; deed a when yes do y = x",
            "name b from 0 to 1 at 1 ; name a from 0 to 1 at 0 ; name c from 0 to 5 at 4 ; deed z when yes do c = ( c - 2 ) ; "
            "deed y when c = 0 do a any 0 to 1 , b = a ; deed x when [ a = 1 and c = 0 ] do c = 5")


class Tables(unittest.TestCase):
    def test_one_behind_another(self):
        self.assertEqual((("a", "x"),), joined_tables((("m", "x"),), (("a", "m"),)))
        self.assertEqual((), joined_tables((), ()))
        self.assertEqual((), joined_tables((("m", "x"), ("n", None)), ()))

    def test_quiet_in_the_first(self):
        self.assertEqual((("a", None), ("b", "x")), joined_tables((("m", "x"),), (("a", None), ("b", "m"))))
        self.assertEqual((("a", None),), joined_tables((), (("a", None),)))

    def test_quiet_in_the_second(self):
        self.assertEqual((("a", None), ("b", "x")), joined_tables((("m", None), ("n", "x")), (("a", "m"), ("b", "n"))))

    def test_quiet_in_both(self):
        self.assertEqual((("a", None), ("b", None), ("c", "x")),
                         joined_tables((("m", None), ("n", "x")), (("a", None), ("b", "m"), ("c", "n"))))

    def test_another_order_than_that_of_the_middle(self):
        to_far = (("m", "x"), ("n", "y"), ("o", None))
        for order in itertools.permutations((("a", "m"), ("b", "n"), ("c", "o"), ("d", None))):
            asked = {"a": "x", "b": "y", "c": None, "d": None}
            self.assertEqual(tuple((called, asked[called]) for called, middle in order), joined_tables(to_far, order))
        for order in itertools.permutations(to_far):
            self.assertEqual((("b", "y"), ("a", "x"), ("c", None)),
                             joined_tables(order, (("b", "n"), ("a", "m"), ("c", "o"))))

    def test_names_that_all_have(self):
        to_far = (("a", "b"), ("b", "c"), ("c", "a"))
        to_middle = (("a", "b"), ("b", "c"), ("c", "a"))
        self.assertEqual((("a", "c"), ("b", "a"), ("c", "b")), joined_tables(to_far, to_middle))

    def test_several_for_one(self):
        self.assertEqual((("a", "x"), ("b", "x"), ("c", "x")),
                         joined_tables((("m", "x"), ("n", "x")), (("a", "m"), ("b", "m"), ("c", "n"))))

    def test_a_table_of_tuples(self):
        table = joined_tables((("m", "x"), ("n", None)), (("a", "m"), ("b", "n")))
        self.assertEqual([tuple, tuple, tuple], [type(table)] + [type(one) for one in table])

    def test_with_its_own(self):
        for far, middle, near, to_far, to_middle in CHAINS[:50]:
            self.assertEqual(to_far.table, joined_tables(own_tie(far).table, to_far.table))
            self.assertEqual(to_far.table, joined_tables(to_far.table, own_tie(middle).table))

    def test_the_second_reckoning(self):
        chance = random.Random(22)
        for number in range(200):
            middles, fars = "mnop"[:chance.randrange(1, 5)], [None, "x", "y"]
            to_far = tuple((called, chance.choice(fars)) for called in middles)
            to_middle = tuple((called, chance.choice([None] + list(middles))) for called in chance.sample("abcdef", chance.randrange(7)))
            asked = tuple(
                (called, None if middle is None else dict(to_far)[middle]) for called, middle in to_middle)
            self.assertEqual(asked, joined_tables(to_far, to_middle))


class Pairs(unittest.TestCase):
    def test_one_middle_room(self):
        self.assertEqual([((0,), (2, 2))], joined_pairs([((0,), (1,))], [((1,), (2, 2))]))
        self.assertEqual([((), ())], joined_pairs([((), ())], [((), ())]))

    def test_several_middle_rooms_for_one_pair(self):
        one = [((0,), (1,)), ((0,), (2,)), ((0,), (3,))]
        other = [((1,), (7,)), ((2,), (7,)), ((3,), (7,))]
        self.assertEqual([((0,), (7,))], joined_pairs(one, other))

    def test_none(self):
        self.assertEqual([], joined_pairs([((0,), (1,))], [((0,), (1,))]))
        self.assertEqual([], joined_pairs([((0,), (1,)), ((0,), (2,))], [((3,), (1,))]))

    def test_lists_that_are_empty(self):
        pairs = [((0,), (0,)), ((1,), (1,))]
        self.assertEqual([], joined_pairs([], []))
        self.assertEqual([], joined_pairs(pairs, []))
        self.assertEqual([], joined_pairs([], pairs))

    def test_rising_each_once(self):
        one = [((0,), (1,)), ((0,), (2,)), ((1,), (0,)), ((1,), (2,))]
        other = [((0,), (5,)), ((1,), (4,)), ((2,), (3,)), ((2,), (4,))]
        self.assertEqual([((0,), (3,)), ((0,), (4,)), ((1,), (3,)), ((1,), (4,)), ((1,), (5,))], joined_pairs(one, other))

    def test_the_second_reckoning(self):
        chance = random.Random(23)
        for number in range(150):
            fars, middles, nears = [[(value,) for value in range(chance.randrange(1, 5))] for kind in range(3)]
            one = sorted(pair for pair in itertools.product(fars, middles) if chance.random() < 0.4)
            other = sorted(pair for pair in itertools.product(middles, nears) if chance.random() < 0.4)
            kept = (list(one), list(other))
            asked = [(far_room, room) for far_room in fars for room in nears
                     if any((far_room, middle) in one and (middle, room) in other for middle in middles)]
            told = joined_pairs(one, other)
            self.assertEqual(asked, told)
            self.assertIs(list, type(told))
            told.append(None)
            self.assertEqual(asked, joined_pairs(one, other))
            self.assertEqual(kept, (one, other))

    def test_many_pairs(self):
        rooms = list(itertools.product(range(4), repeat=3))
        pairs = list(itertools.product(rooms, rooms))
        self.assertEqual(pairs, joined_pairs(pairs, pairs))

    def test_both_closed_then_the_joined_one(self):
        joined = 0
        for far, middle, near, to_far, to_middle in CHAINS:
            one, other = paper_of(far, middle, to_far), paper_of(middle, near, to_middle)
            if one is not None and other is not None:
                joined += 1
                table = joined_tables(to_far.table, to_middle.table)
                pairs = joined_pairs(one, other)
                self.assertIs(True, is_closed(far, near, table, pairs))
                self.assertTrue(closed_by_point_19(far, near, table, pairs))
                self.assertEqual(rooms_come_to(near), {room for far_room, room in pairs})
        self.assertTrue(joined > 100, joined)

    def test_no_ring_in_both_then_none_in_the_joined_one(self):
        rings, levels = 0, 0
        for far, middle, near, to_far, to_middle in CHAINS:
            if paper_of(far, middle, to_far) is not None and paper_of(middle, near, to_middle) is not None:
                told = levels_of(near, joined_tables(to_far.table, to_middle.table))[0]
                if (levels_of(middle, to_far.table)[0], levels_of(near, to_middle.table)[0]) == ("levels", "levels"):
                    self.assertEqual("levels", told)
                    levels += 1
                rings += told == "ring"
        self.assertTrue(levels > 100 and rings > 0, (levels, rings))

    def test_with_its_own(self):
        for far, near, tie in some_pairs(100, rooms=2):
            paper = paper_of(far, near, tie)
            if paper is not None:
                self.assertEqual(paper, joined_pairs(own_pairs(far), paper))
                self.assertEqual(paper, joined_pairs(paper, own_pairs(near)))


class Own(unittest.TestCase):
    def test_the_saying(self):
        for text, saying in (
            ("", "yes"), ("deed go when yes", "yes"), ("name x from 0 to 3 at 2", "@x = x"),
            ("name y from 0 to 3 at 2 ; name x from 0 to 1 at 0", "[ @y = y and @x = x ]"),
            ("name a from 0 to 3 at 2 ; name c from 0 to 1 at 0 ; name b from 0 to 1 at 0",
             "[ @a = a and [ @c = c and @b = b ] ]"),
        ):
            tie = own_tie(read_machine(text))
            self.assertEqual(saying, tie.saying.shown())
            self.assertEqual(read_saying(saying).named(), tie.saying.named())

    def test_the_table_and_the_sum(self):
        for text in MACHINES:
            machine = read_machine(text)
            tie = own_tie(machine)
            self.assertEqual(tuple((deed.called, deed.called) for deed in machine.deeds), tie.table)
            self.assertEqual([tuple] + [tuple] * len(machine.deeds), [type(tie.table)] + [type(one) for one in tie.table])
            self.assertEqual(("0", 0, []), (tie.falling.shown(), tie.falling.worth({}), tie.falling.named()))

    def test_shown_and_read(self):
        self.assertEqual("tie yes ; falls 0", shown_tie(own_tie(read_machine(""))))
        text = "name x from 0 to 3 at 2 ; deed down when yes do x = ( x - 1 )"
        self.assertEqual("tie @x = x ; step down for down ; falls 0", shown_tie(own_tie(read_machine(text))))
        for text in MACHINES:
            machine = read_machine(text)
            shown = shown_tie(own_tie(machine))
            self.assertEqual(shown, shown_tie(read_tie(shown, machine, machine)))

    def test_the_pairs(self):
        self.assertEqual([((), ())], own_pairs(read_machine("")))
        self.assertEqual([((), ())], own_pairs(read_machine("deed go when yes")))
        self.assertEqual([((2,), (2,))], own_pairs(read_machine("name x from 0 to 3 at 2")))
        # Met from 2 down to 0, told rising.
        self.assertEqual([((value,), (value,)) for value in range(3)], own_pairs(read_machine(MACHINES[3])))

    def test_a_paper_by_its_own_tie(self):
        machines = [read_machine(text) for text in MACHINES] + [near for far, near, tie in some_pairs(120)]
        for machine in machines:
            shown = shown_machine(machine)
            pairs, tie = own_pairs(machine), own_tie(machine)
            self.assertEqual([(room, room) for room in sorted(rooms_come_to(machine))], pairs)
            self.assertIs(True, is_closed(machine, machine, tie.table, pairs))
            self.assertTrue(closed_by_point_19(machine, machine, tie.table, pairs))
            self.assertIs(True, is_paper(machine, machine, tie, pairs))
            self.assertEqual(pairs, paper_of(machine, machine, tie))
            self.assertEqual(("nearer", len(pairs)), checked(machine, machine, tie))
            self.assertEqual(shown, shown_machine(machine))

    def test_the_asker_s_own(self):
        machine = read_machine(MACHINES[3])
        told = own_pairs(machine)
        self.assertIs(list, type(told))
        kept = list(told)
        told.append(None)
        told[0] = 7
        self.assertEqual(kept, own_pairs(machine))
        self.assertIsNot(own_tie(machine), own_tie(machine))


if __name__ == "__main__":
    unittest.main()
