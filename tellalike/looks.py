"""Worlds that are seen through a vocabulary: simulations, and concepts that show that there is none."""

from tellalike.bitsets import is_within
from tellalike.concepts import bottom_up, check_concept, check_vocabulary, is_concept, is_in
from tellalike.errors import BadThing, TooMany
from tellalike.forms import ascending, is_ascending, is_integer, is_pair
from tellalike.leaning import is_lean
from tellalike.matching import mark, matched
from tellalike.parting import Look
from tellalike.worlds import check_world, things_in

MOST_ROUNDS = 3


def weaker(concept):
    """The ascending tuple of the concepts that are one step weaker."""
    check_concept(concept)
    found = []
    for item in bottom_up(concept):
        if item[0] == "and":
            second = found.pop()
            first = found.pop()
            steps = [item[1], item[2]]
            steps.extend([("and", step, item[2]) for step in first])
            steps.extend([("and", item[1], step) for step in second])
        elif item[0] == "some":
            inner = found.pop()
            steps = [("all",)]
            steps.extend([("some", item[1], step) for step in inner])
        else:
            steps = [] if item[0] == "all" else [("all",)]
        found.append(steps)
    return ascending(found.pop())


def greatest(world, second, vocabulary):
    """The greatest simulation between the worlds for the vocabulary."""
    check_world(world)
    check_world(second)
    check_vocabulary(vocabulary)
    return Look(world, second, vocabulary).pairs()


def round_of(world, x, second, y, vocabulary):
    """The round of the pair of the thing x of the world and y of the second one; None if x is simulated by y."""
    _check(world, x, second, y, vocabulary)
    return Look(world, second, vocabulary).round_of(x, y)


def judge_simulated(world, x, second, y, vocabulary):
    """A certificate: ("simulated", pairs), or ("concept", d) if x is not simulated by y."""
    _check(world, x, second, y, vocabulary)
    look = Look(world, second, vocabulary)
    number = look.round_of(x, y)
    if number is None:
        return ("simulated", look.pairs())
    if number > MOST_ROUNDS:
        raise TooMany(MOST_ROUNDS)
    return ("concept", look.parting(x, y))


def simulated_holds(world, x, second, y, vocabulary, thing):
    """Whether thing is a certificate for the two things, their worlds and the vocabulary."""
    _check(world, x, second, y, vocabulary)
    if not is_pair(thing):
        return False
    look = Look(world, second, vocabulary)
    if thing[0] == "simulated":
        return _are_pairs(thing[1], world[0], second[0]) and (x, y) in thing[1] and _is_simulation(look, thing[1])
    if thing[0] != "concept" or not is_concept(thing[1]) or not is_in(thing[1], vocabulary):
        return False
    marked = mark(look.second, thing[1])
    if x not in things_in(world, thing[1]) or marked[1] >> y & 1:
        return False
    return is_lean(look.second, marked, 1 << y)


def _check(world, x, second, y, vocabulary):
    """Raises the error for the first of the values that is none of what it should be."""
    check_world(world)
    _check_thing(world, x)
    check_world(second)
    _check_thing(second, y)
    check_vocabulary(vocabulary)


def _check_thing(world, thing):
    if not _is_below(thing, world[0]):
        raise BadThing(thing)


def _is_below(thing, many):
    return is_integer(thing) and 0 <= thing < many


def _are_pairs(thing, many, second_many):
    """Whether thing is an ascending tuple of pairs of a thing of each of two worlds with so many things."""
    if not isinstance(thing, tuple):
        return False
    for pair in thing:
        if not is_pair(pair) or not _is_below(pair[0], many) or not _is_below(pair[1], second_many):
            return False
    return is_ascending(thing)


def _is_simulation(look, pairs):
    """Whether the pairs of things of the two worlds are a simulation."""
    paired = [0] * len(look.fits)
    for x, y in pairs:
        paired[x] = paired[x] | 1 << y
    if not all([is_within(mine, fitting) for mine, fitting in zip(paired, look.fits)]):
        return False
    return matched(paired, look.ties, look.second, 0) == paired
