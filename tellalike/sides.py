"""Two books and a vocabulary: wide concepts, fillers, kept sets, and which kept things match which."""

from tellalike.bitsets import bits, chosen, is_within
from tellalike.growing import NONE, Growth
from tellalike.matching import Ties, matched, rounds_of


class Side:
    """A book, seen with a vocabulary.

    A wide concept and a filler go by their positions in the ascending tuples `concepts` and `fillers`; sets of them are
    numbers with a bit for each. `kept` has the kept set of each filler. `names` has the bits of the vocabulary's names.
    `ties` has (position, role, filler) for each concept with "some" and a role of the vocabulary.
    """

    def __init__(self, book, vocabulary):
        names, roles = vocabulary
        self._growth = Growth(book, [("word", name) for name in names])
        table = self._growth.table
        # The numbers of the wide concepts in the growth, in the order of the concepts.
        wide = sorted([(table.concepts[k], k) for k in range(self._growth.counted)])
        self._numbers = [row[1] for row in wide]
        self._place_of = {number: place for place, number in enumerate(self._numbers)}
        self.concepts = tuple([table.concepts[k] for k in self._numbers])
        self.none = 1 << self._place_of[NONE]
        self.names = [1 << self._place_of[table.number_of(("word", name))] for name in names]
        self._somes = []
        for place, number in enumerate(self._numbers):
            shape = table.shapes[number]
            if shape[0] == "some":
                self._somes.append((place, shape[1], self._place_of[shape[2]]))
        filling = sorted({row[2] for row in self._somes})
        filler_at = {inner: k for k, inner in enumerate(filling)}
        self.fillers = tuple([self.concepts[inner] for inner in filling])
        self.kept = [self._kept(self._numbers[inner]) for inner in filling]
        self.ties = [(place, role, filler_at[inner]) for place, role, inner in self._somes if role in roles]
        self._closed = {}

    def closure(self, found):
        """The closure of a set of wide concepts."""
        if found not in self._closed:
            closed = self._set_of(self._growth.closure([self._numbers[k] for k in bits(found)]))
            self._closed[found] = closed
            self._closed[closed] = closed
        return self._closed[found]

    def lifted(self, found, role):
        """The closure of all "some" with the role whose inner concept is in the set."""
        if found & self.none:
            return self.closure(self.none)
        lifted = [1 << place for place, own, inner in self._somes if own == role and found >> inner & 1]
        return self.closure(sum(lifted))

    def listed(self, found):
        """The ascending tuple of the wide concepts in the set."""
        return tuple([self.concepts[k] for k in bits(found)])

    def _kept(self, number):
        self._growth.keep(number)
        return self._set_of(self._growth.sets[number])

    def _set_of(self, numbers):
        """The set of the wide concepts among those with these numbers."""
        return sum([1 << self._place_of[k] for k in numbers if k in self._place_of])


class Sides:
    """Two books and a vocabulary: the Sides one and other, and for each filler of other which of one match it.

    `fits` has for each filler of other the fillers of one that have its names; `rounds` what is left of them at each
    round; `ties` the pairs (role, filler) that stand for the "some" in the kept set of each filler of other; `free` are
    the fillers of one that are none, with which all match.
    """

    def __init__(self, one, other, vocabulary):
        self.one = Side(one, vocabulary)
        self.other = Side(other, vocabulary)
        self.free = sum([1 << e for e, kept in enumerate(self.one.kept) if kept & self.one.none])
        self.fits = [self.free | self._with_names(kept) for kept in self.other.kept]
        self.ties = [[tie[1:] for tie in self.other.ties if kept >> tie[0] & 1] for kept in self.other.kept]
        tied = []
        for place, role, below in self.one.ties:
            tied.append((role, [(e, below) for e, kept in enumerate(self.one.kept) if kept >> place & 1]))
        self._tied = Ties(len(self.one.fillers), tied)
        self.rounds = rounds_of(self.fits, self.ties, self._tied, self.free)

    def are_fitting(self, paired):
        """Whether pairs fit: for each filler of other the fillers of one that are paired with it."""
        if not all([is_within(mine, fitting) for mine, fitting in zip(paired, self.fits)]):
            return False
        return matched(paired, self.ties, self._tied, self.free) == paired

    def read_pairs(self, thing):
        """For each filler of other the fillers of one that are paired with it in thing; None if thing is not pairs."""
        width = len(self.one.fillers)
        found = chosen([(d, e) for d in self.other.fillers for e in self.one.fillers], thing)
        if found is None:
            return None
        whole = (1 << width) - 1
        return [(found >> (d * width)) & whole for d in range(len(self.other.fillers))]

    def listed_pairs(self, paired):
        """The ascending tuple of the pairs of concepts."""
        fillers = self.one.fillers
        return tuple([(d, fillers[e]) for d, mine in zip(self.other.fillers, paired) for e in bits(mine)])

    def _with_names(self, kept):
        """The fillers of one that have all names of the vocabulary in this kept set of other; none if none is in it."""
        if kept & self.other.none:
            return 0
        wanted = sum([own for own, bit in zip(self.one.names, self.other.names) if kept & bit])
        return sum([1 << e for e, mine in enumerate(self.one.kept) if is_within(wanted, mine)])
