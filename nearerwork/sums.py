"""Sums, and what they are worth by a dict of whole numbers by names."""


def bracketed(one, sign, other):
    return " ".join(["(", one.shown(), sign, other.shown(), ")"])


def names_of_two(one, other):
    return sorted(set(one.named() + other.named()))


class Sum:
    def worth(self, values):
        return 0

    def named(self):
        return []

    def shown(self):
        return "0"


class Number(Sum):
    def __init__(self, number):
        self.number = number

    def worth(self, values):
        return self.number

    def shown(self):
        return str(self.number)


class Named(Sum):
    def __init__(self, name):
        self.name = name

    def worth(self, values):
        return values[self.name]

    def named(self):
        return [self.name]

    def shown(self):
        return self.name


# No sum of its own: what the sums made of two sums have alike stands here once.
class Twofold(Sum):
    def __init__(self, one, other):
        self.one = one
        self.other = other

    def named(self):
        return names_of_two(self.one, self.other)


class Plus(Twofold):
    def worth(self, values):
        return self.one.worth(values) + self.other.worth(values)

    def shown(self):
        return bracketed(self.one, "+", self.other)


class Minus(Twofold):
    def worth(self, values):
        return self.one.worth(values) - self.other.worth(values)

    def shown(self):
        return bracketed(self.one, "-", self.other)


class Times(Twofold):
    def worth(self, values):
        return self.one.worth(values) * self.other.worth(values)

    def shown(self):
        return bracketed(self.one, "*", self.other)
