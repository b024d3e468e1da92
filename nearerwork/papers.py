"""Papers, rooms tied to rooms, and whether they are closed."""

from nearerwork.ties import Ways, tied


def is_closed(far, near, table, pairs):
    if (far.first(), near.first()) not in pairs or pairs != sorted(set(pairs)):
        return False
    fitting = Fitting(far, near, table)
    return all([fitting.stops_fit(pair) for pair in pairs]) and fitting.answered_among(pairs) == pairs


def is_paper(far, near, tie, pairs):
    if not is_closed(far, near, tie.table, pairs):
        return False
    return all([tied(far, near, tie, far_room, room) for far_room, room in pairs])


# What point 19 asks of each pair; what the machines do is asked for in many pairs, so it is kept.
class Fitting:
    def __init__(self, far, near, table):
        self.far = far
        self.near = near
        self.ways = Ways(far, table)
        self.known_moves = {}

    def near_moves(self, room):
        if room not in self.known_moves:
            moves = [(deed.called, self.near.behind(room, deed.called)) for deed in self.near.deeds]
            self.known_moves[room] = [move for move in moves if move[1] != []]
        return self.known_moves[room]

    def stops_fit(self, pair):
        return self.near_moves(pair[1]) != [] or self.far.stops(pair[0])

    def answered_among(self, pairs):
        cover = Cover(self.ways, pairs)
        return [pair for pair in pairs if self.is_answered(pair, cover)]

    def is_answered(self, pair, cover):
        for called, rooms in self.near_moves(pair[1]):
            covered = cover.rooms_behind(pair[0], called)
            if not all([room in covered for room in rooms]):
                return False
        return True


# Near rooms by far rooms: which of them have a pair with a far room behind.
class Cover:
    def __init__(self, ways, pairs):
        self.ways = ways
        self.rooms_beside = {}
        self.known_rooms = {}
        for far_room, room in pairs:
            beside = self.rooms_beside.setdefault(far_room, {})
            beside[room] = True

    def rooms_behind(self, far_room, called):
        asked = (far_room, called)
        if asked not in self.known_rooms:
            rooms = {}
            for far_behind in self.ways.far_rooms_behind(far_room, called):
                rooms.update(self.rooms_beside.get(far_behind, {}))
            self.known_rooms[asked] = rooms
        return self.known_rooms[asked]
