"""Machines, their rooms, and the rooms behind by a deed."""


def choices_of(place, value, changes, values):
    for change in changes:
        if change.name == place[0]:
            return change.choices(values, place[1], place[2])
    return [value]


# Rising, as each list of choices is rising and the first name's counts most.
def rooms_by_choices(lists):
    rooms = [()]
    for choices in lists:
        longer = []
        for room in rooms:
            longer.extend([room + (choice,) for choice in choices])
        rooms = longer
    return rooms


class Machine:
    def __init__(self, places, keeps, deeds):
        self.places = places
        self.keeps = keeps
        self.deeds = deeds

    def first(self):
        return tuple([place[3] for place in self.places])

    def values_in(self, room):
        values = {}
        for place, value in zip(self.places, room):
            values[place[0]] = value
        return values

    def behind(self, room, called):
        for deed in self.deeds:
            if deed.called == called:
                return self.rooms_by_deed(room, deed)
        return []

    def stops(self, room):
        return all([self.rooms_by_deed(room, deed) == [] for deed in self.deeds])

    def rooms_by_deed(self, room, deed):
        values = self.values_in(room)
        if not deed.when.holds(values):
            return []
        lists = [choices_of(place, value, deed.changes, values) for place, value in zip(self.places, room)]
        return rooms_by_choices(lists)
