"""What a book tells, with derivations and worlds that show it."""

from tellalike.concepts import check_book, check_concept
from tellalike.deriving import derivation, reach
from tellalike.forms import is_integer
from tellalike.growing import grown_for, world_of
from tellalike.lines import lines_hold
from tellalike.worlds import is_world, judge_model, things_in


def type_of(book, concept):
    """The ascending tuple of the concepts of the book that it tells of the concept."""
    check_book(book)
    check_concept(concept)
    growth, root = grown_for(book, concept)
    return tuple(sorted([growth.table.concepts[k] for k in growth.sets[root] if k < growth.of_book]))


def does_tell(book, left, right):
    """Whether the book tells that each left is a right."""
    check_book(book)
    check_concept(left)
    check_concept(right)
    growth, root = grown_for(book, left)
    return reach(growth, root, growth.table.number_of(right))


def judge_told(book, left, right):
    """A certificate: ("told", lines), or ("world", world, x) if the book does not tell that each left is a right."""
    check_book(book)
    check_concept(left)
    check_concept(right)
    growth, root = grown_for(book, left)
    goal = growth.table.number_of(right)
    if reach(growth, root, goal):
        return ("told", derivation(growth, root, goal))
    return ("world", world_of(growth), 0)


def told_holds(book, left, right, thing):
    """Whether thing is a certificate for the book and the sentence."""
    check_book(book)
    check_concept(left)
    check_concept(right)
    if not isinstance(thing, tuple):
        return False
    if len(thing) == 2 and thing[0] == "told":
        return lines_hold(book, left, right, thing[1])
    if len(thing) == 3 and thing[0] == "world":
        return _is_counter_world(book, left, right, thing[1], thing[2])
    return False


def _is_counter_world(book, left, right, world, x):
    """Whether these values are a model of the book and a thing of it that is in left and not in right."""
    if not is_world(world) or not is_integer(x) or judge_model(world, book) != ("model",):
        return False
    return x in things_in(world, left) and x not in things_in(world, right)
