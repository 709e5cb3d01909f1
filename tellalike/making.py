"""States of trees by two books: how they are made of each other, which are good, and what they cost."""

from tellalike.bitsets import bits, chosen, is_within
from tellalike.concepts import bottom_up
from tellalike.errors import TooMany


class Maker:
    """Makes states for two books, which are given as Sides, and for pairs that fit.

    The pairs are given as a set of fillers of one for each filler of other. A state is a triple of numbers: near and
    far are sets of wide concepts of one and of other, and stand has a bit for each pair of a role of the vocabulary and
    a filler of other, in ascending order.
    """

    def __init__(self, sides, vocabulary, paired):
        self._one = sides.one
        self._other = sides.other
        self._names = vocabulary[0]
        self._roles = vocabulary[1]
        self._many = len(self._other.fillers)
        self._standing = tuple([(role, d) for role in self._roles for d in self._other.fillers])
        self._reached_by = [(place, self._all_paired(role, e, paired)) for place, role, e in self._one.ties]
        self._far_ties = [(place, self._bit(role, d)) for place, role, d in self._other.ties]

    def of_all(self):
        """The state of all."""
        return (self._one.closure(0), self._other.closure(0), 0)

    def of_name(self, name):
        """The state of a name of the vocabulary."""
        k = self._names.index(name)
        return (self._one.closure(self._one.names[k]), self._other.closure(self._other.names[k]), 0)

    def joined(self, first, second):
        """The state of the "and" of concepts with these states."""
        near = self._one.closure(first[0] | second[0])
        return (near, self._other.closure(first[1] | second[1]), first[2] | second[2])

    def lifted(self, state, role):
        """The state of the "some" with a role of the vocabulary and a concept with this state."""
        stand = sum([self._bit(role, d) for d in range(self._many) if self._stands_for(state, self._other.kept[d])])
        return (self._one.lifted(state[0], role), self._other.lifted(state[1], role), stand)

    def is_good(self, state):
        """Whether the state, reachable or not, is good."""
        if state[0] & self._one.none:
            return True
        return state[1] & self._other.none == 0 and self._stands_for(state, state[1])

    def listed(self, state):
        """The state as a triple of tuples of concepts."""
        standing = tuple([self._standing[k] for k in bits(state[2])])
        return (self._one.listed(state[0]), self._other.listed(state[1]), standing)

    def read(self, thing):
        """The state that thing is, in numbers; None if it has not the form of one."""
        if not isinstance(thing, tuple) or len(thing) != 3:
            return None
        near = chosen(self._one.concepts, thing[0])
        far = chosen(self._other.concepts, thing[1])
        stand = chosen(self._standing, thing[2])
        if near is None or far is None or stand is None:
            return None
        return (near, far, stand)

    def _bit(self, role, d):
        return 1 << (self._roles.index(role) * self._many + d)

    def _all_paired(self, role, e, paired):
        """The pairs of the role and each filler of other that is paired with the filler e of one."""
        return sum([self._bit(role, d) for d, mine in enumerate(paired) if mine >> e & 1])

    def _stands_for(self, state, wanted):
        """Whether the state has or reaches all names and ties of the vocabulary in a set of wide concepts of other."""
        if state[0] & self._one.none:
            return True
        names = sum([own for own, bit in zip(self._one.names, self._other.names) if wanted & bit])
        if not is_within(names, state[0]):
            return False
        reached = state[2]
        for place, found in self._reached_by:
            if state[0] >> place & 1:
                reached = reached | found
        return all([reached & bit for place, bit in self._far_ties if wanted >> place & 1])


def state_of_concept(maker, concept):
    """The state of a concept in the vocabulary in which none does not occur."""
    found = []
    for item in bottom_up(concept):
        if item[0] == "and":
            second = found.pop()
            found.append(maker.joined(found.pop(), second))
        elif item[0] == "some":
            found.append(maker.lifted(found.pop(), item[1]))
        elif item[0] == "word":
            found.append(maker.of_name(item[1]))
        else:
            found.append(maker.of_all())
    return found.pop()


def cheapest(maker, vocabulary, most):
    """For each reachable state its cost, and a concept of this size whose state it is; a dict of pairs.

    Raises TooMany if there are more states than most.
    """
    names, roles = vocabulary
    best = {maker.of_all(): (1, ("all",))}
    for name in names:
        best.setdefault(maker.of_name(name), (1, ("word", name)))
    settled = {}
    while len(best) <= most and len(settled) < len(best):
        # What is made of a state costs more than this state, so the cheapest one cannot get cheaper.
        cost, state = min([(best[known][0], known) for known in best if known not in settled])
        settled[state] = best[state]
        concept = best[state][1]
        made = [(maker.lifted(state, role), cost + 1, ("some", role, concept)) for role in roles]
        for known, (more, first) in settled.items():
            made.append((maker.joined(state, known), cost + more, ("and", first, concept)))
        for known, total, whole in made:
            if known not in best or total < best[known][0]:
                best[known] = (total, whole)
    if len(best) > most:
        raise TooMany(most)
    return settled
