"""Sayings, and whether they hold by a dict of whole numbers by names."""

from nearerwork.sums import names_of_two


def compared(one, sign, other):
    return " ".join([one.shown(), sign, other.shown()])


def bracketed(one, word, other):
    return " ".join(["[", one.shown(), word, other.shown(), "]"])


class Saying:
    def holds(self, values):
        return True

    def named(self):
        return []

    def shown(self):
        return "yes"


# No saying of its own: what the sayings made of two sums or two sayings have alike stands here once.
class Pairing(Saying):
    def __init__(self, one, other):
        self.one = one
        self.other = other

    def named(self):
        return names_of_two(self.one, self.other)


class Less(Pairing):
    def holds(self, values):
        return self.one.worth(values) < self.other.worth(values)

    def shown(self):
        return compared(self.one, "<", self.other)


class AtMost(Pairing):
    def holds(self, values):
        return self.one.worth(values) <= self.other.worth(values)

    def shown(self):
        return compared(self.one, "<=", self.other)


class Equal(Pairing):
    def holds(self, values):
        return self.one.worth(values) == self.other.worth(values)

    def shown(self):
        return compared(self.one, "=", self.other)


class Unlike(Pairing):
    def holds(self, values):
        return self.one.worth(values) != self.other.worth(values)

    def shown(self):
        return compared(self.one, "!=", self.other)


class Both(Pairing):
    def holds(self, values):
        return self.one.holds(values) and self.other.holds(values)

    def shown(self):
        return bracketed(self.one, "and", self.other)


class Either(Pairing):
    def holds(self, values):
        return self.one.holds(values) or self.other.holds(values)

    def shown(self):
        return bracketed(self.one, "or", self.other)


class Not(Saying):
    def __init__(self, one):
        self.one = one

    def holds(self, values):
        return not self.one.holds(values)

    def named(self):
        return self.one.named()

    def shown(self):
        return " ".join(["[", "not", self.one.shown(), "]"])
