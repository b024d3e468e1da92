"""Tables and papers joined one behind another, and a machine's own tie and paper with itself."""

from nearerwork.sayings import Both, Equal, Saying
from nearerwork.sums import Named, Number
from nearerwork.ties import Tie, stands_for
from nearerwork.walking import rooms_of


def joined_tables(to_far, to_middle):
    return tuple([(called, far_called_by(to_far, middle_called)) for called, middle_called in to_middle])


def far_called_by(to_far, middle_called):
    if middle_called is None:
        return None
    return stands_for(to_far, middle_called)


def joined_pairs(one, other):
    rooms_beside = {}
    for middle_room, room in other:
        rooms = rooms_beside.setdefault(middle_room, [])
        rooms.append(room)
    joined = {}
    for far_room, middle_room in one:
        for room in rooms_beside.get(middle_room, []):
            joined[(far_room, room)] = True
    return sorted(joined)


def own_tie(machine):
    names = [place[0] for place in machine.places]
    table = [(deed.called, deed.called) for deed in machine.deeds]
    return Tie(own_saying(names), tuple(table), Number(0))


def own_saying(names):
    if names == []:
        return Saying()
    alike = Equal(Named(f"@{names[0]}"), Named(names[0]))
    if len(names) == 1:
        return alike
    return Both(alike, own_saying(names[1:]))


def own_pairs(machine):
    return sorted([(room, room) for room, run in rooms_of(machine)])
