"""States of trees by two books: kept sets, fitting pairs, and the states that can be reached."""

from tellalike.concepts import bottom_up, check_book, check_concept, check_vocabulary, is_in
from tellalike.errors import BadFiller, BadState, NotIn
from tellalike.forms import ascending
from tellalike.making import Maker, cheapest, state_of_concept
from tellalike.sides import Side, Sides

MOST_STATES = 40


def fillers(book):
    """The ascending tuple of the concepts that stand behind a role in the book."""
    check_book(book)
    found = []
    for axiom in book:
        for concept in axiom:
            found.extend([item[2] for item in bottom_up(concept) if item[0] == "some"])
    return ascending(found)


def kept_set(book, vocabulary, filler):
    """The ascending tuple of the wide concepts of the book that it tells of the filler."""
    check_book(book)
    check_vocabulary(vocabulary)
    side = Side(book, vocabulary)
    if filler not in side.fillers:
        raise BadFiller(filler)
    return side.listed(side.kept[side.fillers.index(filler)])


def greatest_pairs(one, other, vocabulary):
    """The greatest pairs that fit."""
    sides = _sides(one, other, vocabulary)
    return sides.listed_pairs(sides.rounds[-1])


def are_pairs(one, other, vocabulary, thing):
    """Whether thing is pairs that fit."""
    sides = _sides(one, other, vocabulary)
    paired = sides.read_pairs(thing)
    return paired is not None and sides.are_fitting(paired)


def state_of(one, other, vocabulary, concept):
    """The state of the concept for the greatest pairs."""
    maker = _maker(one, other, vocabulary)
    check_concept(concept)
    if not is_in(concept, vocabulary) or ("none",) in bottom_up(concept):
        raise NotIn(concept)
    return maker.listed(state_of_concept(maker, concept))


def rounds(one, other, vocabulary):
    """The greatest round of a pair of fillers, 0 if none has one."""
    return len(_sides(one, other, vocabulary).rounds) - 1


def states_of(one, other, vocabulary):
    """The ascending tuple of the pairs (state, cost) of all reachable states for the greatest pairs."""
    maker = _maker(one, other, vocabulary)
    found = cheapest(maker, vocabulary, MOST_STATES)
    return tuple(sorted([(maker.listed(state), cost) for state, (cost, _) in found.items()]))


def is_good(one, other, vocabulary, state):
    """Whether the state, reachable or not, is good for the greatest pairs."""
    maker = _maker(one, other, vocabulary)
    read = maker.read(state)
    if read is None:
        raise BadState(state)
    return maker.is_good(read)


def _sides(one, other, vocabulary):
    check_book(one)
    check_book(other)
    check_vocabulary(vocabulary)
    return Sides(one, other, vocabulary)


def _maker(one, other, vocabulary):
    """What makes states for the greatest pairs."""
    sides = _sides(one, other, vocabulary)
    return Maker(sides, vocabulary, sides.rounds[-1])
