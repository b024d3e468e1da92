"""The text of a tie: how it is read and how it is shown."""

from nearerwork.errors import NoName, NoStep, NoText, Twice
from nearerwork.lexis import words
from nearerwork.phrases import saying_in, sum_in
from nearerwork.reading import readers_of_parts
from nearerwork.ties import Tie


def read_tie(text, far, near):
    readers = readers_of_parts(words(text))
    if len(readers) < 2:
        raise NoText("a tie has a saying and a sum at least")
    saying = tying_in(readers[0])
    steps = [step_in(reader) for reader in readers[1:-1]]
    falling = falling_in(readers[-1])
    refuse_twice(steps)
    refuse_names(saying.named(), names_of(near) + far_names_of(far))
    refuse_names(falling.named(), names_of(near))
    refuse_names([step[0] for step in steps], deeds_of(near))
    refuse_names([step[1] for step in steps if step[1] is not None], deeds_of(far))
    return Tie(saying, table_by(steps, near), falling)


def tying_in(reader):
    reader.take_word("tie")
    saying = saying_in(reader)
    reader.take_end()
    return saying


def step_in(reader):
    reader.take_word("step")
    called = reader.take_name()
    reader.take_word("for")
    far_called = far_called_in(reader)
    reader.take_end()
    return (called, far_called)


def far_called_in(reader):
    if reader.ahead() == "none":
        reader.take_word("none")
        return None
    return reader.take_name()


def falling_in(reader):
    reader.take_word("falls")
    falling = sum_in(reader)
    reader.take_end()
    return falling


def refuse_twice(steps):
    if len(set([step[0] for step in steps])) < len(steps):
        raise Twice("two steps are of one deed")


def names_of(machine):
    return [place[0] for place in machine.places]


def far_names_of(machine):
    return [f"@{name}" for name in names_of(machine)]


def deeds_of(machine):
    return [deed.called for deed in machine.deeds]


def refuse_names(names, told):
    for name in names:
        if name not in told:
            raise NoName(f"not told: {name!r}")


def table_by(steps, near):
    stood_for = dict(steps)
    table = []
    for called in deeds_of(near):
        if called not in stood_for:
            raise NoStep(f"no step of the deed {called!r}")
        table.append((called, stood_for[called]))
    return tuple(table)


def shown_tie(tie):
    parts = [" ".join(["tie", tie.saying.shown()])]
    parts.extend([shown_step(step) for step in tie.table])
    parts.append(" ".join(["falls", tie.falling.shown()]))
    return " ; ".join(parts)


def shown_step(step):
    far_called = "none" if step[1] is None else step[1]
    return " ".join(["step", step[0], "for", far_called])
