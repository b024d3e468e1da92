"""A bench: a chain of machines, each nearer than the one ahead of it."""

from nearerwork.chains import joined_tables, own_tie
from nearerwork.checking import checked
from nearerwork.errors import NoMachine, NoRun, NotFalling, NotNearer, Unkept
from nearerwork.falling import not_falling
from nearerwork.following import followed
from nearerwork.machinetexts import read_machine, shown_machine
from nearerwork.tietexts import read_tie
from nearerwork.walking import is_run, unkept


class Bench:
    def __init__(self, text):
        machine = read_machine(text)
        refuse_unkept(machine)
        self.machines = [machine]
        # The tie of each machine to the one ahead; the first one has none ahead but itself.
        self.ties = [own_tie(machine)]

    def nearer(self, text, tie_text):
        far = self.machines[-1]
        near = read_machine(text)
        tie = read_tie(tie_text, far, near)
        refuse_unkept(near)
        refuse_not_nearer(far, near, tie)
        refuse_not_falling(near, tie)
        self.machines.append(near)
        self.ties.append(tie)
        return len(self.machines) - 1

    def text_of(self, number):
        self.refuse_number(number)
        return shown_machine(self.machines[number])

    def table_of(self, number):
        self.refuse_number(number)
        table = self.ties[0].table
        for tie in self.ties[1:number + 1]:
            table = joined_tables(table, tie.table)
        return table

    def runs_of(self, number, run):
        self.refuse_number(number)
        if not is_run(self.machines[number], run):
            raise NoRun("no run of this machine")
        runs = [run]
        for ahead in reversed(list(range(number))):
            told = followed(self.machines[ahead], self.machines[ahead + 1], self.ties[ahead + 1], runs[-1])
            runs.append(tuple([step for step in told if step is not None]))
        runs.reverse()
        return runs

    def refuse_number(self, number):
        if number < 0 or number >= len(self.machines):
            raise NoMachine(f"no machine of the number {number!r}")


def refuse_unkept(machine):
    fault = unkept(machine)
    if fault is not None:
        raise Unkept(fault[0], fault[1])


def refuse_not_nearer(far, near, tie):
    verdict = checked(far, near, tie)
    if verdict[0] != "nearer":
        raise NotNearer(verdict)


def refuse_not_falling(near, tie):
    fault = not_falling(near, tie)
    if fault is not None:
        raise NotFalling(fault[0], fault[1], fault[2])
