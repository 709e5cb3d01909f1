"""Data and views: their forms, the facts that views need, and the concepts of views."""

from tellalike.concepts import is_word
from tellalike.errors import BadData, BadThing, BadView
from tellalike.forms import is_ascending, is_pair

# How many words a fact has behind the first one.
LENGTHS = {"there": 1, "is": 2, "tie": 3}


def are_facts(thing):
    """Whether thing is an ascending tuple of facts."""
    return isinstance(thing, tuple) and all([_is_fact(fact) for fact in thing]) and is_ascending(thing)


def check_data(thing):
    """Raises BadData unless thing is data."""
    if not are_facts(thing):
        raise BadData(thing)


def things_in_data(data):
    """The ascending tuple of the things of what surely are data."""
    found = {fact[1]: True for fact in data}
    for fact in data:
        if fact[0] == "tie":
            found[fact[3]] = True
    return tuple(sorted(found))


def check_thing(data, x):
    """Raises BadThing unless x is a thing of what surely are data."""
    if x not in things_in_data(data):
        raise BadThing(x)


def facts_of_view(thing):
    """The list of the facts that thing needs to be a view in data; None if it is a view in no data."""
    found = []
    todo = [(None, thing)]
    while todo:
        tie, view = todo.pop()
        if not _is_top(view):
            return None
        x, names, branches = view
        if tie is not None:
            found.append(("tie", tie[0], tie[1], x))
        found.extend([("is", x, name) for name in names])
        todo.extend([((x, role), below) for role, below in branches])
    return found


def is_view_in(data, thing):
    """Whether thing is a view of some thing of what surely are data."""
    facts = facts_of_view(thing)
    if facts is None or thing[0] not in things_in_data(data):
        return False
    known = set(data)
    return all([fact in known for fact in facts])


def concept_of_view(view):
    """The concept of the view; raises BadView with a value that is a view in no data."""
    if facts_of_view(view) is None:
        raise BadView(view)
    todo = [view]
    found = []
    while todo:
        item = todo.pop()
        found.append(item)
        todo.extend([below for _, below in item[2]])
    # Each view stands behind those of its branches now, which stand in their order.
    done = []
    for _, names, branches in found[::-1]:
        first = len(done) - len(branches)
        pieces = [("word", name) for name in names]
        pieces.extend([("some", role, inner) for (role, _), inner in zip(branches, done[first:])])
        done = done[:first]
        done.append(joined_to_the_left(pieces))
    return done.pop()


def joined_to_the_left(concepts):
    """The "and" of the concepts, nested to the left; all if there are none."""
    if not concepts:
        return ("all",)
    whole = concepts[0]
    for concept in concepts[1:]:
        whole = ("and", whole, concept)
    return whole


def whole_view(data, x):
    """The view of the thing x with all its names and ties, in data without rings."""
    names = tuple([fact[2] for fact in data if fact[0] == "is" and fact[1] == x])
    ties = [fact for fact in data if fact[0] == "tie" and fact[1] == x]
    return (x, names, tuple([(role, whole_view(data, other)) for _, _, role, other in ties]))


def _is_fact(thing):
    if not isinstance(thing, tuple) or len(thing) == 0 or not isinstance(thing[0], str):
        return False
    return LENGTHS.get(thing[0]) == len(thing) - 1 and all([is_word(word) for word in thing[1:]])


def _is_top(thing):
    """Whether thing has the form of a view as far as its branches' views, which may be any values."""
    if not isinstance(thing, tuple) or len(thing) != 3 or not is_word(thing[0]):
        return False
    _, names, branches = thing
    if not isinstance(names, tuple) or not all([is_word(name) for name in names]) or not is_ascending(names):
        return False
    return isinstance(branches, tuple) and all([is_pair(branch) and is_word(branch[0]) for branch in branches])
