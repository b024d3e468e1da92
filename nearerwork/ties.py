"""Ties of a near machine to a far one, and the far rooms that answer a step."""


class Tie:
    def __init__(self, saying, table, falling):
        self.saying = saying
        self.table = table
        self.falling = falling


def stands_for(table, called):
    for near_called, far_called in table:
        if near_called == called:
            return far_called
    return None


def tied(far, near, tie, far_room, room):
    values = near.values_in(room)
    for name, value in far.values_in(far_room).items():
        values[f"@{name}"] = value
    return tie.saying.holds(values)


def answers(far, near, tie, far_rooms, called, room):
    reached = reached_by(far, far_rooms, stands_for(tie.table, called))
    return sorted(set([far_room for far_room in reached if tied(far, near, tie, far_room, room)]))


def reached_by(far, far_rooms, far_called):
    # A quiet deed leaves the far machine where it is.
    if far_called is None:
        return list(far_rooms)
    reached = []
    for far_room in far_rooms:
        reached.extend(far.behind(far_room, far_called))
    return reached
