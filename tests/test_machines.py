"""Point 9, and point 2 of what a machine tells."""

import itertools
import unittest

from nearerwork.changes import Any, Change, Deed, Put
from nearerwork.machines import Machine
from nearerwork.sayings import Equal, Less, Not, Saying
from nearerwork.sums import Minus, Named, Number, Plus, Times

X, Y, Z = Named("x"), Named("y"), Named("z")
ONE = Number(1)
YES = Saying()
PLACES = (("x", 0, 5, 2), ("y", 1, 4, 3), ("z", 2, 2, 2))
EMPTY = Machine((), (), ())


def with_deeds(*deeds):
    return Machine(PLACES, (), deeds)


def with_changes(*changes):
    return with_deeds(Deed("go", YES, changes))


def all_rooms(places):
    return list(itertools.product(*[range(low, high + 1) for name, low, high, start in places]))


def told_by_point_9(machine, room, deed):
    """All rooms of the machine, each asked whether the deed may lead there."""
    names = [place[0] for place in machine.places]
    values = dict(zip(names, room))
    changed = {change.name: change for change in deed.changes}
    found = []
    for one in all_rooms(machine.places):
        fits = deed.when.holds(values)
        for name, old, new in zip(names, room, one):
            change = changed.get(name)
            if isinstance(change, Put):
                fits = fits and new == change.one.worth(values)
            elif isinstance(change, Any):
                fits = fits and change.one.worth(values) <= new <= change.other.worth(values)
            else:
                fits = fits and new == old
        if fits:
            found.append(one)
    return found


class Rooms(unittest.TestCase):
    def test_the_first_room(self):
        self.assertEqual((2, 3, 2), with_deeds().first())
        self.assertEqual((7,), Machine((("x", 5, 9, 7),), (), ()).first())
        self.assertEqual((), EMPTY.first())
        self.assertIs(tuple, type(with_deeds().first()))

    def test_the_order_of_the_names_counts(self):
        self.assertEqual((1, 0), Machine((("b", 0, 1, 1), ("a", 0, 1, 0)), (), ()).first())
        self.assertEqual({"b": 1, "a": 0}, Machine((("b", 0, 1, 1), ("a", 0, 1, 0)), (), ()).values_in((1, 0)))

    def test_values_in(self):
        self.assertEqual({"x": 0, "y": 4, "z": 2}, with_deeds().values_in((0, 4, 2)))
        self.assertEqual({}, EMPTY.values_in(()))
        self.assertIs(dict, type(with_deeds().values_in((0, 4, 2))))

    def test_values_in_is_the_asker_s_own(self):
        machine = with_changes(Put("x", Y))
        told = machine.values_in((0, 4, 2))
        again = machine.values_in((0, 4, 2))
        told["x"] = 9
        told["more"] = 1
        self.assertEqual({"x": 0, "y": 4, "z": 2}, again)
        self.assertEqual({"x": 0, "y": 4, "z": 2}, machine.values_in((0, 4, 2)))
        self.assertEqual([(4, 4, 2)], machine.behind((0, 4, 2), "go"))
        self.assertEqual((2, 3, 2), machine.first())

    def test_fields(self):
        keeps, deeds = (YES, Less(X, Y)), (Deed("go", YES, ()), Deed("rest", YES, ()))
        machine = Machine(PLACES, keeps, deeds)
        self.assertEqual(PLACES, machine.places)
        self.assertEqual(keeps, machine.keeps)
        self.assertEqual(deeds, machine.deeds)
        self.assertEqual(((), (), ()), (EMPTY.places, EMPTY.keeps, EMPTY.deeds))


class Behind(unittest.TestCase):
    def test_no_changes(self):
        self.assertEqual([(2, 3, 2)], with_changes().behind((2, 3, 2), "go"))
        self.assertEqual([(0, 1, 2)], with_changes().behind((0, 1, 2), "go"))

    def test_one_change(self):
        self.assertEqual([(4, 3, 2)], with_changes(Put("x", Number(4))).behind((2, 3, 2), "go"))
        self.assertEqual([(2, 1, 2)], with_changes(Put("y", ONE)).behind((2, 3, 2), "go"))
        self.assertEqual([(2, 3, 2)], with_changes(Put("z", X)).behind((2, 3, 2), "go"))

    def test_three_changes(self):
        machine = with_changes(Put("z", Number(2)), Put("x", Number(5)), Put("y", ONE))
        self.assertEqual([(5, 1, 2)], machine.behind((2, 3, 2), "go"))

    def test_all_changes_at_once(self):
        exchange = with_changes(Put("x", Y), Put("y", X))
        self.assertEqual([(3, 2, 2)], exchange.behind((2, 3, 2), "go"))
        self.assertEqual([(4, 1, 2)], exchange.behind((1, 4, 2), "go"))
        other_way = with_changes(Put("y", X), Put("x", Y))
        self.assertEqual([(3, 2, 2)], other_way.behind((2, 3, 2), "go"))
        ring = Machine((("x", 0, 5, 1), ("y", 0, 5, 2), ("z", 0, 5, 3)), (), (
            Deed("go", YES, (Put("x", Y), Put("y", Z), Put("z", X))),))
        self.assertEqual([(2, 3, 1)], ring.behind((1, 2, 3), "go"))

    def test_an_any_by_the_values_ahead(self):
        machine = with_changes(Put("x", Number(0)), Any("y", X, Plus(X, ONE)))
        self.assertEqual([(0, 2, 2), (0, 3, 2)], machine.behind((2, 4, 2), "go"))

    def test_a_change_without_a_value(self):
        for change in (Put("x", Number(6)), Put("x", Minus(X, Number(3))), Any("x", Number(3), Number(2)),
                       Any("x", Number(6), Number(9)), Put("z", ONE), Change("x"), Change("z")):
            with self.subTest(change=change.shown()):
                self.assertEqual([], with_changes(change).behind((2, 3, 2), "go"))
                self.assertEqual([], with_changes(Put("y", ONE), change).behind((2, 3, 2), "go"))
                self.assertEqual([], with_changes(change, Any("y", ONE, Number(4))).behind((2, 3, 2), "go"))

    def test_a_condition(self):
        machine = with_deeds(Deed("go", Less(X, Y), (Put("x", Y),)))
        self.assertEqual([(3, 3, 2)], machine.behind((2, 3, 2), "go"))
        self.assertEqual([], machine.behind((3, 3, 2), "go"))
        self.assertEqual([], machine.behind((5, 3, 2), "go"))
        self.assertEqual([], with_deeds(Deed("go", Not(YES), ())).behind((2, 3, 2), "go"))

    def test_a_condition_by_the_values_ahead(self):
        machine = with_deeds(Deed("go", Equal(X, Number(2)), (Put("x", Number(5)),)))
        self.assertEqual([(5, 3, 2)], machine.behind((2, 3, 2), "go"))
        self.assertEqual([], machine.behind((5, 3, 2), "go"))

    def test_a_deed_that_there_isn_t(self):
        machine = with_changes(Put("x", Y))
        for called in ("gone", "g", "x", "", "rest"):
            self.assertEqual([], machine.behind((2, 3, 2), called))
        self.assertEqual([], EMPTY.behind((), "go"))
        self.assertEqual([], Machine(PLACES, (), ()).behind((2, 3, 2), "go"))

    def test_the_deed_called_so(self):
        machine = with_deeds(
            Deed("go", YES, (Put("x", Number(1)),)), Deed("gone", YES, (Put("x", Number(3)),)), Deed("x", YES, ()))
        self.assertEqual([(1, 3, 2)], machine.behind((2, 3, 2), "go"))
        self.assertEqual([(3, 3, 2)], machine.behind((2, 3, 2), "gone"))
        self.assertEqual([(2, 3, 2)], machine.behind((2, 3, 2), "x"))

    def test_several_any(self):
        machine = with_changes(Any("y", ONE, Number(9)), Any("x", Number(4), Number(9)))
        asked = [(4, 1, 2), (4, 2, 2), (4, 3, 2), (4, 4, 2), (5, 1, 2), (5, 2, 2), (5, 3, 2), (5, 4, 2)]
        self.assertEqual(asked, machine.behind((2, 3, 2), "go"))
        three = Machine((("x", 0, 5, 0), ("y", 0, 5, 0), ("z", 0, 5, 0)), (), (
            Deed("go", YES, tuple(Any(name, Number(0), Number(5)) for name in "zxy")),))
        self.assertEqual(list(itertools.product(range(6), repeat=3)), three.behind((1, 2, 3), "go"))

    def test_rising_with_values_of_two_figures(self):
        machine = Machine((("x", 8, 11, 8), ("y", 98, 99, 98)), (), (
            Deed("go", YES, (Any("x", Number(0), Number(99)), Any("y", Number(0), Number(99)))),))
        self.assertEqual(list(itertools.product(range(8, 12), (98, 99))), machine.behind((8, 98), "go"))

    def test_each_room_by_point_9(self):
        sums = (Number(0), Number(3), X, Plus(X, Y), Minus(Y, X), Times(X, Minus(Y, Number(2))))
        changes = [()] + [(Put("x", one),) for one in sums]
        changes += [(Any("y", one, other),) for one in sums for other in sums]
        changes += [(Any("y", one, X), Put("x", other)) for one in sums for other in sums]
        changes += [(Any("x", one, Y), Any("y", X, other)) for one in sums for other in sums]
        places = (("x", 0, 3, 2), ("y", 1, 4, 3))
        for one in changes:
            for when in (YES, Less(X, Y)):
                deed = Deed("go", when, one)
                machine = Machine(places, (), (deed,))
                for room in all_rooms(places):
                    asked = told_by_point_9(machine, room, deed)
                    self.assertEqual(asked, machine.behind(room, "go"))
                    self.assertIs(asked == [], machine.stops(room))

    def test_a_rising_list_of_tuples(self):
        told = with_changes(Any("x", Number(0), Number(9))).behind((2, 3, 2), "go")
        self.assertIs(list, type(told))
        self.assertEqual([tuple] * 6, [type(room) for room in told])
        self.assertEqual(sorted(told), told)
        self.assertTrue(all(type(value) is int for room in told for value in room))

    def test_the_asker_s_own(self):
        machine = with_changes(Any("x", Number(4), Number(9)))
        for called, asked in (("go", [(4, 3, 2), (5, 3, 2)]), ("gone", [])):
            told = machine.behind((2, 3, 2), called)
            again = machine.behind((2, 3, 2), called)
            told.append((0, 0, 0))
            told[0] = None
            self.assertEqual(asked, again)
            self.assertEqual(asked, machine.behind((2, 3, 2), called))

    def test_without_names(self):
        machine = Machine((), (), (Deed("go", YES, ()), Deed("rest", Not(YES), ())))
        self.assertEqual([()], machine.behind((), "go"))
        self.assertEqual([], machine.behind((), "rest"))


class Stops(unittest.TestCase):
    def test_without_deeds(self):
        self.assertIs(True, EMPTY.stops(()))
        self.assertIs(True, Machine(PLACES, (), ()).stops((2, 3, 2)))

    def test_by_conditions(self):
        machine = with_deeds(Deed("go", Less(X, Y), ()), Deed("rest", Equal(X, Number(5)), ()))
        self.assertIs(False, machine.stops((2, 3, 2)))
        self.assertIs(True, machine.stops((3, 3, 2)))
        self.assertIs(False, machine.stops((5, 3, 2)))

    def test_by_changes(self):
        machine = with_changes(Put("x", Plus(X, ONE)))
        self.assertIs(False, machine.stops((4, 3, 2)))
        self.assertIs(True, machine.stops((5, 3, 2)))

    def test_a_deed_to_the_same_room_is_no_stop(self):
        self.assertIs(False, with_changes().stops((2, 3, 2)))
        self.assertIs(False, with_changes(Put("x", X)).stops((2, 3, 2)))
        self.assertIs(False, Machine((), (), (Deed("go", YES, ()),)).stops(()))

    def test_the_same_each_time(self):
        machine = with_changes(Put("x", Plus(X, ONE)))
        for number in range(3):
            self.assertIs(False, machine.stops((4, 3, 2)))
            self.assertIs(True, machine.stops((5, 3, 2)))
            self.assertEqual([(5, 3, 2)], machine.behind((4, 3, 2), "go"))
            self.assertEqual((2, 3, 2), machine.first())


if __name__ == "__main__":
    unittest.main()
