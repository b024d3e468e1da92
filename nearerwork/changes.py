"""Changes of a name's value, and deeds, which are made of them."""

from nearerwork.sums import names_of_two


class Change:
    def __init__(self, name):
        self.name = name

    def choices(self, values, low, high):
        return []

    def named(self):
        return []

    def shown(self):
        return self.name


class Put(Change):
    def __init__(self, name, one):
        Change.__init__(self, name)
        self.one = one

    def choices(self, values, low, high):
        worth = self.one.worth(values)
        if worth < low or worth > high:
            return []
        return [worth]

    def named(self):
        return self.one.named()

    def shown(self):
        return " ".join([self.name, "=", self.one.shown()])


class Any(Change):
    def __init__(self, name, one, other):
        Change.__init__(self, name)
        self.one = one
        self.other = other

    # The worths may be as great as they are: only what lies from low to high is walked.
    def choices(self, values, low, high):
        least = max(low, self.one.worth(values))
        most = min(high, self.other.worth(values))
        return list(range(least, most + 1))

    def named(self):
        return names_of_two(self.one, self.other)

    def shown(self):
        return " ".join([self.name, "any", self.one.shown(), "to", self.other.shown()])


class Deed:
    def __init__(self, called, when, changes):
        self.called = called
        self.when = when
        self.changes = changes
