"""A run of a near machine followed by a far one."""

from nearerwork.errors import NoAnswer, NoRun, NoTie
from nearerwork.ties import Answering, stands_for, tied
from nearerwork.walking import is_run


def followed(far, near, tie, run):
    if not is_run(near, run):
        raise NoRun("no run of the near machine")
    if not tied(far, near, tie, far.first(), near.first()):
        raise NoTie("the first rooms are not tied")
    answering = Answering(far, near, tie)
    far_rooms_ahead = answers_along(answering, run)
    far_room = last_far_room(far, near, run, far_rooms_ahead.pop())
    told = []
    # Backwards, since only some of the far rooms on the way lead to the last one.
    for far_rooms, step in reversed(list(zip(far_rooms_ahead, run))):
        told.append(far_step(tie.table, step[0], far_room))
        far_room = room_ahead(answering.ways, far_rooms, step[0], far_room)
    told.reverse()
    return tuple(told)


# The far rooms that may be come to ahead of each step, and behind the last one.
def answers_along(answering, run):
    lists = [(answering.far.first(),)]
    for number, step in enumerate(run):
        far_rooms = answering.tied_of(answering.reached(lists[-1], step[0]), step[1])
        if far_rooms == ():
            raise NoAnswer(number)
        lists.append(far_rooms)
    return lists


def last_far_room(far, near, run, far_rooms):
    room = run[-1][1] if len(run) > 0 else near.first()
    if near.stops(room):
        for far_room in far_rooms:
            if far.stops(far_room):
                return far_room
    return far_rooms[0]


def far_step(table, called, far_room):
    far_called = stands_for(table, called)
    if far_called is None:
        return None
    return (far_called, far_room)


def room_ahead(ways, far_rooms, called, far_room):
    return [ahead for ahead in far_rooms if far_room in ways.far_rooms_behind(ahead, called)][0]
