"""Whether a machine is nearer than a far one by a tie, looked through entry by entry."""

from nearerwork.errors import TooMany
from nearerwork.ties import Answering, tied

MOST_ENTRIES = 400


def checked(far, near, tie):
    if not tied(far, near, tie, far.first(), near.first()):
        return ("start",)
    search = Search(far, near, tie)
    search.meet(near.first(), (far.first(),), ())
    looked = 0
    while looked < len(search.entries):
        verdict = search.fault_at(search.entries[looked])
        if verdict is not None:
            return verdict
        looked = looked + 1
    return ("nearer", len(search.entries))


# An entry is kept with its run, as (room, far rooms, run).
class Search:
    def __init__(self, far, near, tie):
        self.far = far
        self.near = near
        self.answering = Answering(far, near, tie)
        self.entries = []
        self.known_entries = {}
        self.rooms_seen = {}

    def meet(self, room, far_rooms, run):
        if (room, far_rooms) in self.known_entries:
            return
        if len(self.entries) == MOST_ENTRIES:
            raise TooMany("too many entries")
        self.known_entries[(room, far_rooms)] = True
        self.entries.append((room, far_rooms, run))

    def fault_at(self, entry):
        if self.near.stops(entry[0]) and not self.far_stops(entry[1]):
            return ("stop", entry[2])
        for deed in self.near.deeds:
            verdict = self.fault_by(entry, deed.called)
            if verdict is not None:
                return verdict
        return None

    def far_stops(self, far_rooms):
        for far_room in far_rooms:
            if self.far.stops(far_room):
                return True
        return False

    def fault_by(self, entry, called):
        reached = self.answering.reached(entry[1], called)
        # From the same far rooms to the same room there is the same entry, met already.
        seen = self.rooms_seen.setdefault(reached, {})
        for room in self.near.behind(entry[0], called):
            if room not in seen:
                seen[room] = True
                far_rooms = self.answering.tied_of(reached, room)
                if far_rooms == ():
                    return ("step", entry[2], called, room)
                self.meet(room, far_rooms, entry[2] + ((called, room),))
        return None
