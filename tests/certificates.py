"""Slow judges of the certificates of parts 7 to 12, clause by clause, and slow answers to their questions."""

import itertools

from oracles import (
    Books, Closing, concepts_by_words, is_counter_world, is_in_by_words, parts_by_words, rounds_by_words, sentences_by_words, size_by_words,
    told_by_words, weaker_by_words,
)
from samples import ALL, NONE, both, some
from tellalike.concepts import is_book, is_concept, is_in
from tellalike.lines import are_lines
from tellalike.worlds import is_world


def ends_with(book, lines, left, right):
    """Whether lines, any value, are lines of the book that end with the sentence."""
    return are_lines(book, lines) and len(lines) > 0 and sentences_by_words(book, lines)[-1] == (left, right)


def shows_not_told(book, left, right, world, x):
    """Whether these are a model of the book and a thing of it that is in left and not in right."""
    return is_world(world) and type(x) is int and 0 <= x < world[0] and is_counter_world(book, left, right, world, x)


# Covering.

def is_state_by_words(books, thing):
    """Whether any value is a state in the form of [6.2]."""
    if not isinstance(thing, tuple) or len(thing) != 3 or not all(isinstance(part, tuple) for part in thing):
        return False
    ties = list(itertools.product(books.vocabulary[1], books.fillers[1]))
    for part, known in zip(thing, (list(books.wide[0]), list(books.wide[1]), ties)):
        if not all(item in known for item in part) or tuple(sorted(set(part))) != part:
            return False
    return True


def are_pairs_by_words(books, thing):
    if not isinstance(thing, tuple) or not all(isinstance(pair, tuple) and len(pair) == 2 for pair in thing):
        return False
    if not all(d in books.fillers[1] and e in books.fillers[0] for d, e in thing):
        return False
    return tuple(sorted(set(thing))) == thing and books.are_fitting(thing)


def faults_of_table(one, other, vocabulary, pairs, states):
    """What is wrong with a table of [7.2], a list that is empty for a right one."""
    books = Books(one, other, vocabulary)
    if not are_pairs_by_words(books, pairs):
        return ["pairs"]
    if not isinstance(states, tuple) or not all(is_state_by_words(books, state) for state in states):
        return ["form"]
    books.pairs = pairs
    faults = []
    if tuple(sorted(set(states))) != states:
        faults.append("order")
    if books.state_of(ALL) not in states:
        faults.append("all")
    added = [books.state_of(name) for name in books.names]
    added += [books.lifted(state, role) for state in states for role in vocabulary[1]]
    if not all(books.joined(state, more) in states for state in states for more in added):
        faults.append("adding")
    if not all(books.is_good(state) for state in states):
        faults.append("good")
    return faults


def least_world_by_words(book, left):
    """[4.3]: the least world of the left concept, with the root as thing 0; None if none comes at the root."""
    closing = Closing(book, left, [])
    if NONE in closing.sets[("root",)]:
        return None
    keys = [("root",)]
    for key in keys:
        keys += [below for above, _, below in sorted(closing.ties) if above == key and below not in keys]
    names = sorted({c[1] for key in keys for c in closing.sets[key] if c[0] == "word"})
    roles = sorted({role for above, role, _ in closing.ties if above in keys})
    named = [(name, tuple(k for k, key in enumerate(keys) if ("word", name) in closing.sets[key])) for name in names]
    tied = [(role, {(keys.index(a), keys.index(b)) for a, own, b in closing.ties if own == role and a in keys}) for role in roles]
    return (len(keys), tuple(named), tuple((role, tuple(sorted(pairs))) for role, pairs in tied))


def does_part(one, other, vocabulary, left):
    """Whether other tells some sentence with this left side, in the vocabulary, that one does not tell."""
    near, far = least_world_by_words(one, left), least_world_by_words(other, left)
    if near is None or far is None:
        return near is not None
    return (0, 0) in rounds_by_words(far, near, vocabulary)


def faults_of_sentence(one, other, vocabulary, thing, smaller=()):
    """What is wrong with a tuple ("sentence", ..) of [7.2]; smaller are concepts that are tried as left sides."""
    if not isinstance(thing, tuple) or len(thing) != 6 or thing[0] != "sentence":
        return ["form"]
    _, left, right, lines, world, x = thing
    if not all(is_concept(side) and is_in(side, vocabulary) for side in (left, right)):
        return ["concepts"]
    faults = []
    if not ends_with(other, lines, left, right):
        faults.append("lines")
    if not shows_not_told(one, left, right, world, x):
        faults.append("world")
    if any(size_by_words(concept) < size_by_words(left) and does_part(one, other, vocabulary, concept) for concept in smaller):
        faults.append("least")
    if any(told_by_words(other, left, step) and not told_by_words(one, left, step) for step in weaker_by_words(right)):
        faults.append("lean")
    return faults


def faults_of_cover(one, other, vocabulary, thing, smaller=()):
    if thing[0] == "covered":
        return faults_of_table(one, other, vocabulary, *thing[1:]) if len(thing) == 3 else ["form"]
    return faults_of_sentence(one, other, vocabulary, thing, smaller)


# Data.

def told_of_data(book, concepts, asked):
    """The concepts that count that the book tells of the "and" of the concepts."""
    counted = concepts_by_words(book) | parts_by_words(asked)
    joined = ALL
    for concept in concepts:
        joined = both(joined, concept)
    return counted & Closing(book, joined, [asked]).sets[("root",)]


def things_by_words(data):
    return sorted({fact[1] for fact in data} | {fact[3] for fact in data if fact[0] == "tie"})


def depth_by_words(book, data, x, concept, most=60):
    """[8.5]: the depth of the question; None if the concept is not told."""
    things = things_by_words(data)
    names = {thing: [("word", fact[2]) for fact in data if fact[0] == "is" and fact[1] == thing] for thing in things}
    follows = {thing: told_of_data(book, names[thing], concept) for thing in things}
    for depth in range(most):
        if concept in follows[x] or any(NONE in found for found in follows.values()):
            return depth
        after = {}
        for thing in things:
            above = [some(fact[2], d) for fact in data if fact[0] == "tie" and fact[1] == thing for d in sorted(follows[fact[3]])]
            after[thing] = told_of_data(book, names[thing] + above, concept)
        if after == follows:
            return None
        follows = after
    raise AssertionError("too deep")


def view_depth(view):
    return max([1 + view_depth(below) for _, below in view[2]], default=0)


def is_view_by_words(data, x, view):
    """[8.3], for what has the form of a view."""
    thing, names, branches = view
    if thing != x or list(names) != sorted(set(names)) or not all(("is", x, name) in data for name in names):
        return False
    return all(("tie", x, role, below[0]) in data and is_view_by_words(data, below[0], below) for role, below in branches)


def view_concept_by_words(view):
    found = [("word", name) for name in view[1]] + [some(role, view_concept_by_words(below)) for role, below in view[2]]
    if not found:
        return ALL
    whole = found[0]
    for concept in found[1:]:
        whole = both(whole, concept)
    return whole


def are_places_by_words(data, world, places):
    """[8.1], for what has the form of pairs of a string and an integer."""
    if [thing for thing, _ in places] != things_by_words(data) or not all(0 <= number < world[0] for _, number in places):
        return False
    at = dict(places)
    for fact in data:
        if fact[0] == "is" and not is_in_by_words(world, ("word", fact[2]), at[fact[1]]):
            return False
        if fact[0] == "tie" and (at[fact[1]], at[fact[3]]) not in [pair for role, pairs in world[2] if role == fact[2] for pair in pairs]:
            return False
    return True


def is_model_by_words(world, book):
    for left, right in book:
        if any(is_in_by_words(world, left, y) and not is_in_by_words(world, right, y) for y in range(world[0])):
            return False
    return True


def faults_of_answer(book, data, x, concept, thing):
    """What is wrong with a certificate of [8.4] of the right form."""
    if thing[0] == "world":
        _, world, places = thing
        if not is_world(world) or not is_model_by_words(world, book):
            return ["model"]
        if not are_places_by_words(data, world, places):
            return ["places"]
        return ["in it"] if is_in_by_words(world, concept, dict(places)[x]) else []
    kind, view, lines = thing
    if view[0] not in things_by_words(data) or not is_view_by_words(data, view[0], view) or kind == "told" and view[0] != x:
        return ["view"]
    return [] if ends_with(book, lines, view_concept_by_words(view), concept if kind == "told" else NONE) else ["lines"]


def data_of_by_words(concept):
    """[8.6] for a concept with at most 25 roles."""
    facts, used = {("there", "a")}, ["a"]

    def add(thing, item):
        if item[0] == "word":
            facts.add(("is", thing, item[1]))
        elif item[0] == "and":
            add(thing, item[1])
            add(thing, item[2])
        elif item[0] == "some":
            below = "abcdefghijklmnopqrstuvwxyz"[len(used)]
            used.append(below)
            facts.update({("tie", thing, item[1], below), ("there", below)})
            add(below, item[2])

    add("a", concept)
    return tuple(sorted(facts))


def faults_of_data(one, other, vocabulary, thing):
    """What is wrong with a certificate ("data", ..) of [8.7] of the right form."""
    _, facts, x, concept, told, world = thing
    faults = []
    if not all(fact[0] == "there" or fact[2] in vocabulary[0 if fact[0] == "is" else 1] for fact in facts):
        faults.append("vocabulary of facts")
    if x not in things_by_words(facts):
        return ["thing"]
    if not is_concept(concept) or not is_in(concept, vocabulary):
        return ["concept"]
    if told[0] not in ("told", "clash") or world[0] != "world":
        return ["kinds"]
    return faults + faults_of_answer(other, facts, x, concept, told) + faults_of_answer(one, facts, x, concept, world)


# Editions.

def contained_by_words(vocabulary):
    def choices(words):
        return [chosen for k in range(len(words) + 1) for chosen in itertools.combinations(words, k)]
    return [(names, roles) for names in choices(vocabulary[0]) for roles in choices(vocabulary[1])]


def contains(vocabulary, few):
    return set(few[0]) <= set(vocabulary[0]) and set(few[1]) <= set(vocabulary[1])


def faults_of_border(one, other, vocabulary, thing):
    """What is wrong with a tuple ("border", seen, unseen) of rows of the right lengths."""
    _, seen, unseen = thing
    whole, faults = contained_by_words(vocabulary), []
    for rows in (seen, unseen):
        few = [row[0] for row in rows]
        if not all(each in whole for each in few):
            return ["vocabularies"]
        if few != sorted(set(few)):
            faults.append("order")
        if any(a != b and contains(a, b) for a in few for b in few):
            faults.append("one in another")
    for each in whole:
        if any(contains(each, row[0]) for row in seen) == any(contains(row[0], each) for row in unseen):
            faults.append("sides")
    for few, side, sentence in seen:
        books = (other, one) if side == "lost" else (one, other)
        if side not in ("lost", "new"):
            faults.append("side")
        faults += faults_of_sentence(*books, few, sentence)
    for few, *tables in unseen:
        faults += faults_of_table(other, one, few, *tables[:2]) + faults_of_table(one, other, few, *tables[2:])
    return faults


# Parts, words taken out, joins.

def part_book(book, positions):
    return tuple(axiom for k, axiom in enumerate(book) if k in positions)


def faults_of_least(book, vocabulary, thing):
    """What is wrong with a tuple ("part", ..) of [10.2] with positions."""
    _, positions, pairs, states, losses = thing
    faults = faults_of_table(part_book(book, positions), book, vocabulary, pairs, states)
    if len(losses) != len(positions):
        return faults + ["losses"]
    for k, loss in zip(positions, losses):
        faults += faults_of_sentence(part_book(book, [j for j in positions if j != k]), book, vocabulary, loss)
    return faults


def faults_of_taken(book, vocabulary, k, thing):
    """What is wrong with a certificate of [11.2] whose second item may be any value."""
    kind, axioms, reasons = thing[:3]
    if not is_book(axioms) or not all(is_in(side, vocabulary) for axiom in axioms for side in axiom):
        return ["axioms"]
    if not isinstance(reasons, tuple) or len(reasons) != len(axioms):
        return ["reasons"]
    faults = [] if all(ends_with(book, lines, *axiom) for axiom, lines in zip(axioms, reasons)) else ["lines"]
    if len(axioms) > k or kind == "rest" and len(axioms) != k:
        faults.append("number")
    if kind == "whole":
        return faults + faults_of_table(axioms, book, vocabulary, *thing[3:])
    if any(told_by_words(axioms[:j], *axiom) for j, axiom in enumerate(axioms)):
        faults.append("told before")
    return faults + faults_of_sentence(axioms, book, vocabulary, *thing[3:])


def join_by_words(base, left, right):
    found = [axiom for axiom in base if axiom in left and axiom in right]
    found += [axiom for axiom in left if axiom not in base] + [axiom for axiom in right if axiom not in base]
    return tuple(axiom for k, axiom in enumerate(found) if axiom not in found[:k])


def quarrels_by_words(base, left, right, vocabulary):
    joined = join_by_words(base, left, right)
    told = [[told_by_words(book, ("word", name), NONE) for book in (joined, left, right)] for name in vocabulary[0]]
    return tuple(name for name, row in zip(vocabulary[0], told) if row == [True, False, False])


def faults_of_join(base, left, right, vocabulary, thing):
    """What is wrong with a tuple ("joined", ..) of [12.2] of the right form."""
    _, of_left, of_right, rows = thing
    joined = join_by_words(base, left, right)
    faults = faults_of_cover(joined, left, vocabulary, of_left) + faults_of_cover(joined, right, vocabulary, of_right)
    if tuple(row[0] for row in rows) != quarrels_by_words(base, left, right, vocabulary):
        return faults + ["names"]
    for name, lines, worlds in rows:
        if not ends_with(joined, lines, ("word", name), NONE):
            faults.append("lines")
        for book, (kind, world, x) in zip((left, right), worlds):
            if kind != "world" or not shows_not_told(book, ("word", name), NONE, world, x):
                faults.append("worlds")
    return faults
