"""Two books that are compared through a vocabulary: the tables and the sentences of [7.2] of the document."""

from tellalike.concepts import is_concept, is_in, size
from tellalike.errors import TooMany
from tellalike.forms import is_ascending
from tellalike.growing import NONE, grown_for, world_of
from tellalike.leaning import is_lean
from tellalike.looks import MOST_ROUNDS
from tellalike.making import Maker, cheapest
from tellalike.matching import Model, mark
from tellalike.parting import Look
from tellalike.sides import Sides
from tellalike.states import MOST_STATES
from tellalike.telling import judge_told, told_holds

LARGEST_LEFT = 12


class Comparison:
    """Whether the book one covers the book other for a vocabulary, by all reachable states for the greatest pairs.

    `left` is None if one covers other, else a concept of least size of which other tells more than one does, in the
    vocabulary; `cost` is its size. Raises TooMany if there are too many rounds or states, or the cost is too great.
    """

    def __init__(self, one, other, vocabulary):
        self._books = (one, other)
        self._vocabulary = vocabulary
        self._sides = Sides(one, other, vocabulary)
        if len(self._sides.rounds) - 1 > MOST_ROUNDS:
            raise TooMany(MOST_ROUNDS)
        self._maker = Maker(self._sides, vocabulary, self._sides.rounds[-1])
        self._found = cheapest(self._maker, vocabulary, MOST_STATES)
        bad = [(cost, state) for state, (cost, _) in self._found.items() if not self._maker.is_good(state)]
        self.cost = None
        self.left = None
        if bad:
            self.cost, state = min(bad)
            self.left = self._found[state][1]
            if self.cost > LARGEST_LEFT:
                raise TooMany(LARGEST_LEFT)

    def certificate(self):
        """A certificate of [7.2]."""
        if self.left is None:
            states = tuple(sorted([self._maker.listed(state) for state in self._found]))
            return ("covered", self._sides.listed_pairs(self._sides.rounds[-1]), states)
        one, other = self._books
        near, _ = grown_for(one, self.left)
        far, root = grown_for(other, self.left)
        world = world_of(near)
        if NONE in far.sets[root]:
            right = ("none",)
        else:
            right = Look(world_of(far), world, self._vocabulary).parting(0, 0)
        return ("sentence", self.left, right, judge_told(other, self.left, right)[1], world, 0)

    def is_sentence(self, thing):
        """Whether thing is a certificate "sentence" of [7.2]."""
        if not _has_six(thing) or self.left is None:
            return False
        _, left, right, lines, world, x = thing
        if not self._is_known(left) or not self._is_known(right) or size(left) > self.cost:
            return False
        one, other = self._books
        if not told_holds(other, left, right, ("told", lines)):
            return False
        # What is weaker than right is told by other, too, so it must be true at the root of the least world of one.
        return told_holds(one, left, right, ("world", world, x)) and _is_lean_right(one, left, right)

    def _is_known(self, thing):
        """Whether thing is a concept in the vocabulary."""
        return is_concept(thing) and is_in(thing, self._vocabulary)


def sentence_holds(one, other, vocabulary, thing):
    """Whether thing is a certificate "sentence" of [7.2]; what has not its form is none without a Comparison."""
    return _has_six(thing) and Comparison(one, other, vocabulary).is_sentence(thing)


def table_holds(one, other, vocabulary, pairs, states):
    """Whether these values are pairs and states by which one covers other for the vocabulary."""
    sides = Sides(one, other, vocabulary)
    paired = sides.read_pairs(pairs)
    if paired is None or not sides.are_fitting(paired) or not isinstance(states, tuple):
        return False
    maker = Maker(sides, vocabulary, paired)
    read = [maker.read(state) for state in states]
    if None in read or not is_ascending(states) or not all([maker.is_good(state) for state in read]):
        return False
    return _is_closed(maker, vocabulary, read)


def _has_six(thing):
    """Whether thing is a tuple of six values that begins as a certificate "sentence"."""
    return isinstance(thing, tuple) and len(thing) == 6 and thing[0] == "sentence"


def _is_closed(maker, vocabulary, states):
    """Whether the state of all is one of the states, and all that comes of them by adding."""
    known = set(states)
    names, roles = vocabulary
    added = {maker.of_name(name): True for name in names}
    for state in states:
        for role in roles:
            added[maker.lifted(state, role)] = True
    if maker.of_all() not in known:
        return False
    for more in added:
        for state in states:
            if maker.joined(state, more) not in known:
                return False
    return True


def _is_lean_right(one, left, right):
    """Whether one tells of left all that is one step weaker than right, which it does not tell."""
    near, _ = grown_for(one, left)
    model = Model(world_of(near))
    return is_lean(model, mark(model, right), 1)
