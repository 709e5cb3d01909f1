"""Worlds: what is in a concept there, and which books hold there."""

from tellalike.concepts import bottom_up, check_book, check_concept, is_word
from tellalike.errors import BadWorld
from tellalike.forms import is_ascending, is_integer, is_pair

MOST_THINGS = 2000


def is_world(thing):
    """Whether thing is a world."""
    if not isinstance(thing, tuple) or len(thing) != 3:
        return False
    many, names, roles = thing
    if not is_integer(many) or not 1 <= many <= MOST_THINGS:
        return False
    return _is_listing(names, _is_thing, many) and _is_listing(roles, _is_tie, many)


def things_in(world, concept):
    """The ascending tuple of the things of the world that are in the concept."""
    check_world(world)
    check_concept(concept)
    return tuple(_members(world, concept))


def does_hold_in(world, left, right):
    """Whether each thing of the world that is in left is in right."""
    check_world(world)
    check_concept(left)
    check_concept(right)
    return _least_outside(world, left, right) is None


def judge_model(world, book):
    """The certificate: ("model",), or the first axiom that does not hold and the least thing that shows it."""
    check_world(world)
    check_book(book)
    for j, (left, right) in enumerate(book):
        x = _least_outside(world, left, right)
        if x is not None:
            return ("axiom", j, x)
    return ("model",)


def model_holds(world, book, thing):
    """Whether thing is the certificate of the world and the book."""
    if thing != judge_model(world, book):
        return False
    # True and False are equal to 1 and 0, but they are no numbers of an axiom or a thing.
    return all([is_integer(number) for number in thing[1:]])


def check_world(thing):
    """Raises BadWorld unless thing is a world."""
    if not is_world(thing):
        raise BadWorld(thing)


def _is_listing(thing, is_item, many):
    """Whether thing is ascending pairs of a word and ascending items, not (), and no word is there twice."""
    if not isinstance(thing, tuple):
        return False
    for row in thing:
        if not is_pair(row) or not is_word(row[0]) or not _are_items(row[1], is_item, many):
            return False
    return is_ascending([row[0] for row in thing])


def _are_items(thing, is_item, many):
    """Whether thing is an ascending tuple of items of a world of so many things, and not ()."""
    if not isinstance(thing, tuple) or len(thing) == 0:
        return False
    return all([is_item(item, many) for item in thing]) and is_ascending(thing)


def _is_thing(item, many):
    return is_integer(item) and 0 <= item < many


def _is_tie(item, many):
    return is_pair(item) and _is_thing(item[0], many) and _is_thing(item[1], many)


def _members(world, concept):
    """The things that are in the concept, ascending, of what surely are a world and a concept."""
    many, names, roles = world
    things_of = dict(names)
    ties_of = dict(roles)
    found = []
    for item in bottom_up(concept):
        if item[0] == "all":
            found.append(list(range(many)))
        elif item[0] == "none":
            found.append(())
        elif item[0] == "word":
            found.append(things_of.get(item[1], ()))
        elif item[0] == "and":
            second = found.pop()
            found.append(_in_both(found.pop(), second))
        else:
            found.append(_tied_into(ties_of.get(item[1], ()), found.pop()))
    return found.pop()


def _in_both(first, second):
    among = set(second)
    return [x for x in first if x in among]


def _tied_into(ties, things):
    """The first items of the ties whose second ones are among the things, ascending."""
    among = set(things)
    return sorted({x for x, y in ties if y in among})


def _least_outside(world, left, right):
    """The least thing that is in left and not in right; None if there is none."""
    among = set(_members(world, right))
    outside = [x for x in _members(world, left) if x not in among]
    return outside[0] if outside else None
