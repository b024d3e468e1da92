"""Ties of a near machine to a far one, and the far rooms that answer a step."""


class Tie:
    def __init__(self, saying, table, falling):
        self.saying = saying
        self.table = table
        self.falling = falling


def stands_for(table, called):
    for near_called, far_called in table:
        if near_called == called:
            return far_called
    return None


def tied(far, near, tie, far_room, room):
    values = near.values_in(room)
    for name, value in far.values_in(far_room).items():
        values[f"@{name}"] = value
    return tie.saying.holds(values)


def answers(far, near, tie, far_rooms, called, room):
    answering = Answering(far, near, tie)
    return list(answering.tied_of(answering.reached(far_rooms, called), room))


# Far rooms are asked for many times from one room by one deed, so each such answer is kept.
class Ways:
    def __init__(self, far, table):
        self.far = far
        self.table = table
        self.known_ways = {}

    def far_rooms_behind(self, far_room, called):
        asked = (far_room, called)
        if asked not in self.known_ways:
            self.known_ways[asked] = self.found_behind(far_room, stands_for(self.table, called))
        return self.known_ways[asked]

    def found_behind(self, far_room, far_called):
        # A quiet deed leaves the far machine where it is.
        if far_called is None:
            return [far_room]
        return self.far.behind(far_room, far_called)


# The same pairs of rooms come up again and again while one question is answered, so each is looked at once.
class Answering:
    def __init__(self, far, near, tie):
        self.far = far
        self.near = near
        self.tie = tie
        self.ways = Ways(far, tie.table)
        self.known_reached = {}
        self.known_tied = {}

    def reached(self, far_rooms, called):
        asked = (tuple(far_rooms), called)
        if asked not in self.known_reached:
            found = []
            for far_room in far_rooms:
                found.extend(self.ways.far_rooms_behind(far_room, called))
            self.known_reached[asked] = tuple(sorted(set(found)))
        return self.known_reached[asked]

    def tied_of(self, far_rooms, room):
        return tuple([far_room for far_room in far_rooms if self.is_tied(far_room, room)])

    def is_tied(self, far_room, room):
        asked = (far_room, room)
        if asked not in self.known_tied:
            self.known_tied[asked] = tied(self.far, self.near, self.tie, far_room, room)
        return self.known_tied[asked]
