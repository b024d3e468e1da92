"""The refusals, each with a class of its own."""


class WorkError(ValueError):
    pass


class NoText(WorkError):
    pass


class TooMany(WorkError):
    pass


class NoRange(WorkError):
    pass


class Twice(WorkError):
    pass


class NoName(WorkError):
    pass


class NoStep(WorkError):
    pass


class NoRun(WorkError):
    pass


class NoTie(WorkError):
    pass


class NoMachine(WorkError):
    pass


class NoAnswer(WorkError):
    def __init__(self, step):
        self.step = step


class Unkept(WorkError):
    def __init__(self, number, run):
        self.number = number
        self.run = run


class NotNearer(WorkError):
    def __init__(self, verdict):
        self.verdict = verdict


class NotFalling(WorkError):
    def __init__(self, run, called, room):
        self.run = run
        self.called = called
        self.room = room
