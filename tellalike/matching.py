"""Things that are tied by roles, which of them match which, and the rounds in which those that do not are found.

Sets of things are numbers with a bit for each thing.
"""

from tellalike.concepts import bottom_up
from tellalike.bitsets import bits


class Ties:
    """Which things are tied to which, by which roles."""

    def __init__(self, many, roles):
        """many things; roles has a pair (role, pairs of things) for each role, in any order."""
        self._after = {}
        for role, pairs in roles:
            tied = self._after.setdefault(role, [0] * many)
            for x, y in pairs:
                tied[x] = tied[x] | 1 << y

    def after(self, role, things):
        """The things to which some of these things are tied by the role."""
        tied = self._after.get(role)
        found = 0
        if tied is not None:
            for x in bits(things):
                found = found | tied[x]
        return found

    def before(self, role, things):
        """The things that are tied by the role to some of these things."""
        found = 0
        for x, tied in enumerate(self._after.get(role, ())):
            if tied & things:
                found = found | 1 << x
        return found


class Model(Ties):
    """A world, with its sets of things as numbers."""

    def __init__(self, world):
        many, names, roles = world
        Ties.__init__(self, many, roles)
        self.everything = (1 << many) - 1
        self._having = {name: sum([1 << x for x in things]) for name, things in names}

    def having(self, name):
        """The things that have the name."""
        return self._having.get(name, 0)

    def simple(self, shape):
        """The things in all, none or a name."""
        if shape[0] == "word":
            return self.having(shape[1])
        return self.everything if shape[0] == "all" else 0


def mark(model, concept):
    """The concept with what is in it: a tuple (concept, things, what its inner concepts give likewise)."""
    found = []
    for item in bottom_up(concept):
        if item[0] == "and":
            second = found.pop()
            first = found.pop()
            found.append((item, first[1] & second[1], (first, second)))
        elif item[0] == "some":
            inner = found.pop()
            found.append((item, model.before(item[1], inner[1]), (inner,)))
        else:
            found.append((item, model.simple(item), ()))
    return found.pop()


def matched(fits, ties, second, free):
    """The things of fits whose ties are matched.

    fits has, for each x, the things y that are paired with it; ties has, for each x, its pairs (role, tied); second is
    the Ties of the things y. A pair stays if y is in free, or if y is tied, for each tie of x, by the same role to
    something that is paired with what x is tied to.
    """
    found = []
    for x, paired in enumerate(fits):
        for role, tied in ties[x]:
            if paired:
                paired = paired & (free | second.before(role, fits[tied]))
        found.append(paired)
    return found


def rounds_of(fits, ties, second, free):
    """What is left of fits at each round, from 0 on, until all ties of what is left are matched."""
    left = [fits]
    after = matched(fits, ties, second, free)
    while after != left[-1]:
        left.append(after)
        after = matched(after, ties, second, free)
    return left
