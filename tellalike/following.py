"""What follows by a book from the facts of data, at each depth ([8.5] of the document) and without a bound."""

from tellalike.deriving import facts_behind
from tellalike.growing import NONE, Growth, world_of
from tellalike.views import things_in_data
from tellalike.worlds import things_in

DEEPEST = 4


class Layers:
    """What follows by a book from the things of data at the depths from 0 to 4.

    A thing at a depth is a kept thing, and the facts are axioms about it: at depth 0 it has its names, and at each
    other depth also its ties, to things at the depth before.
    """

    def __init__(self, book, data, concept):
        self._growth = Growth(book, [concept])
        self._goal = self._growth.table.number_of(concept)
        self._things = things_in_data(data)
        self._of_book = len(book)
        self._facts = _tell(self._growth, [fact for fact in data if fact[0] == "is"], 0, 0)
        for depth in range(1, DEEPEST + 1):
            self._facts.extend(_tell(self._growth, data, depth, depth - 1))
        for thing in self._things:
            for depth in range(DEEPEST + 1):
                self._growth.keep(_placed(self._growth, thing, depth))

    def first(self, x):
        """The first triple (thing, depth, kind) by which the concept is told of x; None if there is none.

        The kind is "told" if the concept follows from x, and "clash" if none follows from the thing.
        """
        for depth in range(DEEPEST + 1):
            if self._follows(x, depth, self._goal):
                return (x, depth, "told")
            for thing in self._things:
                if self._follows(thing, depth, NONE):
                    return (thing, depth, "clash")
        return None

    def view(self, thing, depth, kind):
        """A view of the thing with names and ties from which the concept, or none for a clash, follows."""
        goal = self._goal if kind == "told" else NONE
        used = {}
        for node, number in facts_behind(self._growth, (_placed(self._growth, thing, depth), goal)):
            reason = self._growth.sets[node][number]
            if reason[0] == "axiom" and reason[1] >= self._of_book:
                used.setdefault(node, []).append(self._facts[reason[1] - self._of_book])
        return self._view(used, thing, depth)

    def _view(self, used, thing, depth):
        facts = sorted(used.get(_placed(self._growth, thing, depth), []))
        names = tuple([fact[2] for fact in facts if fact[0] == "is"])
        ties = [fact for fact in facts if fact[0] == "tie"]
        return (thing, names, tuple([(role, self._view(used, other, depth - 1)) for _, _, role, other in ties]))

    def _follows(self, thing, depth, number):
        return number in self._growth.sets[_placed(self._growth, thing, depth)]


def least_world(book, data):
    """A model of the book, and places in it, with just what follows from the facts; None if none follows somewhere."""
    growth = Growth(book, ())
    _tell(growth, data, 0, 0)
    things = things_in_data(data)
    nodes = [_placed(growth, thing, 0) for thing in things]
    for node in nodes:
        growth.keep(node)
    if [node for node in nodes if NONE in growth.sets[node]]:
        return None
    place_of = {node: k for k, node in enumerate(growth.sets)}
    return (world_of(growth), tuple([(thing, place_of[node]) for thing, node in zip(things, nodes)]))


def is_told_of(book, data, x, concept):
    """Whether the book tells the concept of the thing x, at whatever depth."""
    least = least_world(book, data)
    return least is None or dict(least[1])[x] in things_in(least[0], concept)


def _tell(growth, data, depth, below):
    """Adds the facts as axioms about things at this depth, tied to those at the depth below; lists them in order."""
    told = [fact for fact in data if fact[0] != "there"]
    for fact in told:
        if fact[0] == "is":
            right = growth.table.number_of(("word", fact[2]))
        else:
            right = growth.table.number_of_some(fact[2], _placed(growth, fact[3], below))
        growth.add_axiom(_placed(growth, fact[1], depth), right)
    return told


def _placed(growth, thing, depth):
    """The number of a thing at a depth."""
    return growth.table.number_of_own((thing, depth))
