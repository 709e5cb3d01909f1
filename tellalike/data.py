"""Data, and what books tell of the things in them, with views and worlds that show it."""

from tellalike.comparing import table_holds
from tellalike.concepts import bottom_up, check_book, check_concept, check_vocabulary, is_concept, is_in, is_word
from tellalike.covering import judge_cover
from tellalike.errors import BadConcept, TooMany
from tellalike.following import DEEPEST, Layers, is_told_of, least_world
from tellalike.forms import ascending, is_integer, is_pair
from tellalike.lines import lines_hold
from tellalike.telling import judge_told
from tellalike.views import are_facts, check_data, check_thing, concept_of_view, is_view_in, things_in_data, whole_view
from tellalike.worlds import check_world, is_world, judge_model, things_in

LETTERS = "abcdefghijklmnopqrstuvwxyz"


def is_data(thing):
    """Whether thing is an ascending tuple of facts."""
    return are_facts(thing)


def things_of(data):
    """The ascending tuple of the things of the data."""
    check_data(data)
    return things_in_data(data)


def are_places(data, world, thing):
    """Whether thing is places for the data in the world at which the facts hold."""
    check_data(data)
    check_world(world)
    if not isinstance(thing, tuple) or not all([is_pair(row) and is_integer(row[1]) for row in thing]):
        return False
    if [row[0] for row in thing] != list(things_in_data(data)):
        return False
    return all([0 <= number < world[0] for _, number in thing]) and _do_facts_hold(data, world, dict(thing))


def is_view(data, x, thing):
    """Whether thing is a view of the thing x of the data."""
    check_data(data)
    check_thing(data, x)
    return is_view_in(data, thing) and thing[0] == x


def view_concept(view):
    """The concept of the view."""
    return concept_of_view(view)


def data_of(concept):
    """The data of a concept in which none does not occur."""
    check_concept(concept)
    if ("none",) in bottom_up(concept):
        raise BadConcept(concept)
    words = _words(1 + len([item for item in bottom_up(concept) if item[0] == "some"]))
    facts = [("there", words[0])]
    used = 1
    todo = [(words[0], concept)]
    while todo:
        thing, item = todo.pop()
        if item[0] == "word":
            facts.append(("is", thing, item[1]))
        elif item[0] == "and":
            # The first of the two is popped first, with all that comes of it.
            todo.extend([(thing, item[2]), (thing, item[1])])
        elif item[0] == "some":
            below = words[used]
            used = used + 1
            facts.extend([("tie", thing, item[1], below), ("there", below)])
            todo.append((below, item[2]))
    return ascending(facts)


def judge_thing(book, data, x, concept):
    """A certificate: ("told", view, lines), ("clash", view, lines) or ("world", world, places)."""
    _check(book, data, x, concept)
    if not is_told_of(book, data, x, concept):
        world, places = least_world(book, data)
        return ("world", world, places)
    layers = Layers(book, data, concept)
    way = layers.first(x)
    if way is None:
        raise TooMany(DEEPEST)
    thing, depth, kind = way
    view = layers.view(thing, depth, kind)
    goal = concept if kind == "told" else ("none",)
    return (kind, view, judge_told(book, concept_of_view(view), goal)[1])


def thing_holds(book, data, x, concept, thing):
    """Whether thing is a certificate for the book, the thing x of the data and the concept."""
    does_tell_of(book, data, x, concept)
    return _shows_told(book, data, x, concept, thing) or _shows_not_told(book, data, x, concept, thing)


def does_tell_of(book, data, x, concept):
    """Whether the book tells the concept of the thing x of the data."""
    _check(book, data, x, concept)
    told = is_told_of(book, data, x, concept)
    if told and Layers(book, data, concept).first(x) is None:
        raise TooMany(DEEPEST)
    return told


def judge_data(one, other, vocabulary):
    """A certificate: ("covered", pairs, states), or ("data", facts, thing, d, told, world)."""
    found = judge_cover(one, other, vocabulary)
    if found[0] == "covered":
        return found
    _, left, right, _, _, _ = found
    facts = data_of(left)
    root = LETTERS[0]
    view = whole_view(facts, root)
    told = ("told", view, judge_told(other, concept_of_view(view), right)[1])
    world, places = least_world(one, facts)
    return ("data", facts, root, right, told, ("world", world, places))


def data_holds(one, other, vocabulary, thing):
    """Whether thing is a certificate for the two books and all data in the vocabulary."""
    check_book(one)
    check_book(other)
    check_vocabulary(vocabulary)
    if not isinstance(thing, tuple):
        return False
    if len(thing) == 3 and thing[0] == "covered":
        return table_holds(one, other, vocabulary, thing[1], thing[2])
    if len(thing) != 6 or thing[0] != "data":
        return False
    _, facts, x, concept, told, world = thing
    if not are_facts(facts) or not _are_in(facts, vocabulary) or x not in things_in_data(facts):
        return False
    if not is_concept(concept) or not is_in(concept, vocabulary):
        return False
    return _shows_told(other, facts, x, concept, told) and _shows_not_told(one, facts, x, concept, world)


def _check(book, data, x, concept):
    """Raises the error for the first of the values that is none of what it should be."""
    check_book(book)
    check_data(data)
    check_thing(data, x)
    check_concept(concept)


def _words(many):
    """The first so many words: a, b and so on, behind z those of two letters, and so on."""
    found = []
    ends = [""]
    while True:
        # Each round has the words that are one letter longer than those of the round before.
        ends = [end + letter for end in ends for letter in LETTERS]
        for word in ends:
            if is_word(word):
                found.append(word)
            if len(found) == many:
                return found


def _do_facts_hold(data, world, places):
    """Whether the facts hold at the places, a dict."""
    having = {name: things for name, things in world[1]}
    tied = {role: pairs for role, pairs in world[2]}
    for fact in data:
        if fact[0] == "is" and places[fact[1]] not in having.get(fact[2], ()):
            return False
        if fact[0] == "tie" and (places[fact[1]], places[fact[3]]) not in tied.get(fact[2], ()):
            return False
    return True


def _are_in(data, vocabulary):
    """Whether all names and roles of the data are in the vocabulary."""
    names, roles = vocabulary
    for fact in data:
        if fact[0] == "is" and fact[2] not in names or fact[0] == "tie" and fact[2] not in roles:
            return False
    return True


def _shows_told(book, data, x, concept, thing):
    """Whether thing is a certificate of one of the kinds "told" and "clash"."""
    if not isinstance(thing, tuple) or len(thing) != 3 or not is_view_in(data, thing[1]):
        return False
    left = concept_of_view(thing[1])
    if thing[0] == "told":
        return thing[1][0] == x and lines_hold(book, left, concept, thing[2])
    return thing[0] == "clash" and lines_hold(book, left, ("none",), thing[2])


def _shows_not_told(book, data, x, concept, thing):
    """Whether thing is a certificate of the kind "world"."""
    if not isinstance(thing, tuple) or len(thing) != 3 or thing[0] != "world":
        return False
    _, world, places = thing
    if not is_world(world) or judge_model(world, book) != ("model",) or not are_places(data, world, places):
        return False
    return dict(places)[x] not in things_in(world, concept)
