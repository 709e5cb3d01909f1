"""Parts of a book: which of its axioms are enough for a vocabulary."""

from tellalike.comparing import sentence_holds, table_holds
from tellalike.concepts import check_book, check_vocabulary
from tellalike.covering import does_cover, judge_cover
from tellalike.errors import BadPart
from tellalike.forms import is_ascending, is_integer


def is_part(book, thing):
    """Whether thing is an ascending tuple of positions of axioms of the book."""
    check_book(book)
    if not isinstance(thing, tuple) or not all([is_integer(k) and 0 <= k < len(book) for k in thing]):
        return False
    return is_ascending(thing)


def book_of(book, part):
    """The book of the axioms at the positions of the part."""
    check_book(book)
    _check_part(book, part)
    return _book_at(book, part)


def judge_part(book, vocabulary, part):
    """A certificate: ("enough", pairs, states), or ("lost", sentence)."""
    _check(book, vocabulary)
    _check_part(book, part)
    found = judge_cover(_book_at(book, part), book, vocabulary)
    return ("enough", found[1], found[2]) if found[0] == "covered" else ("lost", found)


def part_holds(book, vocabulary, part, thing):
    """Whether thing is a certificate for the part of the book and the vocabulary."""
    _check(book, vocabulary)
    _check_part(book, part)
    if not isinstance(thing, tuple):
        return False
    few = _book_at(book, part)
    if len(thing) == 3 and thing[0] == "enough":
        return table_holds(few, book, vocabulary, thing[1], thing[2])
    return len(thing) == 2 and thing[0] == "lost" and sentence_holds(few, book, vocabulary, thing[1])


def judge_least(book, vocabulary):
    """A certificate ("part", positions, pairs, states, losses) for a least part of the book."""
    _check(book, vocabulary)
    positions = tuple(range(len(book)))
    for k in range(len(book)):
        # What cannot be left out of a part cannot be left out of a smaller one, so each position is tried once.
        fewer = _without(positions, k)
        if does_cover(_book_at(book, fewer), book, vocabulary):
            positions = fewer
    _, pairs, states = judge_cover(_book_at(book, positions), book, vocabulary)
    losses = [judge_cover(_book_at(book, _without(positions, k)), book, vocabulary) for k in positions]
    return ("part", positions, pairs, states, tuple(losses))


def least_holds(book, vocabulary, thing):
    """Whether thing is a certificate for a least part of the book for the vocabulary."""
    _check(book, vocabulary)
    if not isinstance(thing, tuple) or len(thing) != 5 or thing[0] != "part" or not is_part(book, thing[1]):
        return False
    _, positions, pairs, states, losses = thing
    if not isinstance(losses, tuple) or len(losses) != len(positions):
        return False
    if not table_holds(_book_at(book, positions), book, vocabulary, pairs, states):
        return False
    for k, loss in zip(positions, losses):
        if not sentence_holds(_book_at(book, _without(positions, k)), book, vocabulary, loss):
            return False
    return True


def needed(book, vocabulary):
    """The ascending tuple of the positions of the axioms that are in each part that is enough."""
    _check(book, vocabulary)
    everything = tuple(range(len(book)))
    found = [k for k in everything if not does_cover(_book_at(book, _without(everything, k)), book, vocabulary)]
    return tuple(found)


def _check(book, vocabulary):
    check_book(book)
    check_vocabulary(vocabulary)


def _check_part(book, part):
    if not is_part(book, part):
        raise BadPart(part)


def _book_at(book, positions):
    return tuple([book[k] for k in positions])


def _without(positions, left_out):
    return tuple([k for k in positions if k != left_out])
