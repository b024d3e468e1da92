"""Whether a tie's sum falls with each quiet step."""

from nearerwork.ties import stands_for
from nearerwork.walking import rooms_of, steps_from


def quiet_steps(machine, table, room):
    return [step for step in steps_from(machine, room) if stands_for(table, step[0]) is None]


def not_falling(near, tie):
    for room, run in rooms_of(near):
        worth = worth_in(near, tie, room)
        for step in quiet_steps(near, tie.table, room):
            worth_behind = worth_in(near, tie, step[1])
            if worth_behind < 0 or worth_behind >= worth:
                return (run, step[0], step[1])
    return None


def worth_in(near, tie, room):
    return tie.falling.worth(near.values_in(room))
