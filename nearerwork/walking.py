"""Runs of a machine, the rooms that are come to, and whether its sayings are kept."""


def is_run(machine, run):
    room = machine.first()
    for called, next_room in run:
        if next_room not in machine.behind(room, called):
            return False
        room = next_room
    return True


def steps_from(machine, room):
    steps = []
    for deed in machine.deeds:
        steps.extend([(deed.called, behind) for behind in machine.behind(room, deed.called)])
    return steps


def rooms_of(machine):
    met = [(machine.first(), ())]
    known = {machine.first(): True}
    looked = 0
    while looked < len(met):
        room = met[looked][0]
        run = met[looked][1]
        for step in steps_from(machine, room):
            if step[1] not in known:
                known[step[1]] = True
                met.append((step[1], run + (step,)))
        looked = looked + 1
    return met


def unkept(machine):
    for room, run in rooms_of(machine):
        values = machine.values_in(room)
        for number, keep in enumerate(machine.keeps):
            if not keep.holds(values):
                return (number, run)
    return None
