"""Two worlds, seen through a vocabulary: which things match, and concepts that part those that do not."""

from tellalike.bitsets import bits
from tellalike.leaning import made_lean
from tellalike.matching import Model, mark, rounds_of


class Look:
    """Two worlds and a vocabulary: x is a thing of the first, y one of the second world.

    `fits` has for each x the y that have its names, `ties` its pairs (role, thing to which it is tied), `rounds` what
    is left of fits at each round. All sets of things are numbers with a bit for each.
    """

    def __init__(self, world, second, vocabulary):
        names, roles = vocabulary
        self.second = Model(second)
        self._names = [[] for _ in range(world[0])]
        for name, things in world[1]:
            for x in things:
                if name in names:
                    self._names[x].append(name)
        self.ties = [[] for _ in range(world[0])]
        for role, pairs in world[2]:
            for x, tied in pairs:
                if role in roles:
                    self.ties[x].append((role, tied))
        self.fits = [self._with_names(mine) for mine in self._names]
        self.rounds = rounds_of(self.fits, self.ties, self.second, 0)

    def pairs(self):
        """The greatest simulation."""
        return tuple([(x, y) for x, matching in enumerate(self.rounds[-1]) for y in bits(matching)])

    def round_of(self, x, y):
        """The round of the pair; None if x is simulated by y."""
        for number, left in enumerate(self.rounds):
            if not left[x] >> y & 1:
                return number
        return None

    def parting(self, x, y):
        """A lean concept in which x is and y is not, where x is not simulated by y."""
        concept, _ = self._part(x, 1 << y)
        return made_lean(self.second, mark(self.second, concept), 1 << y)[0]

    def _with_names(self, names):
        found = self.second.everything
        for name in names:
            found = found & self.second.having(name)
        return found

    def _part(self, x, missed):
        """A concept in which x is and none of missed, none of which simulates x; and the y that are in it."""
        parts = []
        members = self.second.everything
        for way, group in self._ways(x, missed):
            # Only those that are in all that was joined so far need this way.
            if members & group:
                part, inside = self._follow(way, members & group)
                parts.append(part)
                members = members & inside
        if not parts:
            return ("all",), members
        concept = parts[0]
        for part in parts[1:]:
            concept = ("and", concept, part)
        return concept, members

    def _follow(self, way, group):
        """The concept, in which none of the group is, that this way out gives; and the y that are in it."""
        if way[0] == "word":
            return way, self.second.having(way[1])
        _, role, tied = way
        inner, inside = self._part(tied, self.second.after(role, group))
        return ("some", role, inner), self.second.before(role, inside)

    def _ways(self, x, missed):
        """The pairs of a way out, and of those of missed that go it; those of the greatest rounds first.

        A way out is a name of x, or ("some", role, thing) with a tie of x that nothing to which y is tied can match.
        """
        groups = {}
        for earlier, y in sorted([(-self.round_of(x, y), y) for y in bits(missed)]):
            way = self._way(x, y, -earlier)
            groups[way] = groups.get(way, 0) | 1 << y
        return list(groups.items())

    def _way(self, x, y, number):
        """The first way out for the pair, whose round is this number."""
        if number == 0:
            return [("word", name) for name in self._names[x] if not self.second.having(name) >> y & 1][0]
        before = self.rounds[number - 1]
        ways = []
        for role, tied in self.ties[x]:
            if self.second.after(role, 1 << y) & before[tied] == 0:
                ways.append(("some", role, tied))
        return ways[0]
