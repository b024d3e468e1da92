"""How many quiet steps can be done one behind the other, or a ring of them."""

from nearerwork.falling import quiet_steps
from nearerwork.walking import rooms_of


def levels_of(machine, table):
    runs = dict(rooms_of(machine))
    quiet = dict([(room, quiet_steps(machine, table, room)) for room in runs])
    levels = {}
    level = 0
    left = list(runs)
    while len(left) > 0:
        settled = [room for room in left if all([step[1] in levels for step in quiet[room]])]
        if settled == []:
            return told_ring(runs, quiet, levels, left[0])
        for room in settled:
            levels[room] = level
        level = level + 1
        left = [room for room in left if room not in levels]
    return ("levels", [levels[room] for room in runs])


# From each room without a level a quiet step goes to another such one, so going on comes back at last.
def told_ring(runs, quiet, levels, room):
    places = {}
    steps = []
    while room not in places:
        places[room] = len(steps)
        steps.append(unsettled_step(quiet[room], levels))
        room = steps[-1][1]
    return ("ring", runs[room], tuple(steps[places[room]:]))


def unsettled_step(steps, levels):
    return [step for step in steps if step[1] not in levels][0]
