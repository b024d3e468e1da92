"""The text of a machine: how it is read and how it is shown."""

from nearerwork.changes import Any, Deed, Put
from nearerwork.errors import NoName, NoRange, NoText, TooMany, Twice
from nearerwork.lexis import words
from nearerwork.machines import Machine
from nearerwork.phrases import saying_in, sum_in
from nearerwork.reading import readers_of_parts

ORDER = ("name", "keep", "deed")
MOST_PLACES = 3
MOST_KEEPS = 4
MOST_DEEDS = 6
MOST_CHANGES = 3
WIDEST = 5


def read_machine(text):
    pieces = words(text)
    # Without words there is no part at all, while a ; by itself parts two that are none.
    readers = readers_of_parts(pieces) if pieces != [] else []
    refuse_disorder([reader.ahead() for reader in readers])
    machine = machine_in(readers)
    refuse_too_many(machine)
    refuse_ranges(machine)
    refuse_twice(machine)
    refuse_names(machine)
    return machine


def machine_in(readers):
    places = []
    keeps = []
    deeds = []
    for reader in readers:
        opening = reader.take()
        if opening == "name":
            places.append(place_in(reader))
        elif opening == "keep":
            keeps.append(saying_in(reader))
        else:
            deeds.append(deed_in(reader))
        reader.take_end()
    return Machine(tuple(places), tuple(keeps), tuple(deeds))


def refuse_disorder(openings):
    for opening in openings:
        if opening not in ORDER:
            raise NoText(f"a part is asked for, there is {opening!r}")
    ranks = [ORDER.index(opening) for opening in openings]
    if ranks != sorted(ranks):
        raise NoText("names go ahead of keeps, and keeps ahead of deeds")


def place_in(reader):
    name = reader.take_name()
    reader.take_word("from")
    low = reader.take_number()
    reader.take_word("to")
    high = reader.take_number()
    reader.take_word("at")
    start = reader.take_number()
    return (name, low, high, start)


def deed_in(reader):
    called = reader.take_name()
    reader.take_word("when")
    when = saying_in(reader)
    changes = changes_in(reader)
    return Deed(called, when, tuple(changes))


def changes_in(reader):
    if reader.ahead() != "do":
        return []
    reader.take_word("do")
    changes = [change_in(reader)]
    while reader.ahead() == ",":
        reader.take_word(",")
        changes.append(change_in(reader))
    return changes


def change_in(reader):
    name = reader.take_name()
    sign = reader.take()
    one = sum_in(reader)
    if sign == "=":
        return Put(name, one)
    if sign == "any":
        reader.take_word("to")
        return Any(name, one, sum_in(reader))
    raise NoText(f"= or any is asked for, there is {sign!r}")


def refuse_too_many(machine):
    if len(machine.places) > MOST_PLACES:
        raise TooMany("too many names")
    if len(machine.keeps) > MOST_KEEPS:
        raise TooMany("too many keeps")
    if len(machine.deeds) > MOST_DEEDS:
        raise TooMany("too many deeds")
    for deed in machine.deeds:
        if len(deed.changes) > MOST_CHANGES:
            raise TooMany("too many changes")


def refuse_ranges(machine):
    for name, low, high, start in machine.places:
        if low > start or start > high or high > low + WIDEST:
            raise NoRange(f"no range of {name!r}")


def refuse_twice(machine):
    refuse_alike([place[0] for place in machine.places])
    refuse_alike([deed.called for deed in machine.deeds])
    for deed in machine.deeds:
        refuse_alike([change.name for change in deed.changes])


def refuse_alike(names):
    if len(set(names)) < len(names):
        raise Twice("two are called alike")


def refuse_names(machine):
    told = [place[0] for place in machine.places]
    for name in names_used(machine):
        if name not in told:
            raise NoName(f"no name of the machine: {name!r}")


def names_used(machine):
    used = []
    for keep in machine.keeps:
        used.extend(keep.named())
    for deed in machine.deeds:
        used.extend(deed.when.named())
        for change in deed.changes:
            used.append(change.name)
            used.extend(change.named())
    return used


def shown_machine(machine):
    parts = [shown_place(place) for place in machine.places]
    parts.extend([" ".join(["keep", keep.shown()]) for keep in machine.keeps])
    parts.extend([shown_deed(deed) for deed in machine.deeds])
    return " ; ".join(parts)


def shown_place(place):
    return " ".join(["name", place[0], "from", str(place[1]), "to", str(place[2]), "at", str(place[3])])


def shown_deed(deed):
    shown = " ".join(["deed", deed.called, "when", deed.when.shown()])
    if len(deed.changes) == 0:
        return shown
    changes = " , ".join([change.shown() for change in deed.changes])
    return " ".join([shown, "do", changes])
