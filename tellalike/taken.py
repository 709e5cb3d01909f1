"""Words taken out of a book: what it tells in the words of a vocabulary, as a book in these words."""

from tellalike.comparing import sentence_holds, table_holds
from tellalike.concepts import check_book, check_vocabulary, is_book, is_in
from tellalike.covering import judge_cover
from tellalike.errors import BadNumber
from tellalike.forms import is_integer
from tellalike.lines import lines_hold
from tellalike.telling import does_tell


def is_taken_out(book, vocabulary, thing):
    """Whether thing is a book that is taken out of the book for the vocabulary."""
    check_book(book)
    check_vocabulary(vocabulary)
    return _is_book_in(thing, vocabulary) and all([does_tell(book, left, right) for left, right in thing])


def take_out(book, vocabulary, k):
    """A certificate: ("whole", axioms, reasons, pairs, states), or ("rest", axioms, reasons, sentence)."""
    _check(book, vocabulary, k)
    axioms = ()
    reasons = ()
    found = judge_cover(axioms, book, vocabulary)
    while found[0] == "sentence" and len(axioms) < k:
        axioms = axioms + (found[1:3],)
        reasons = reasons + (found[3],)
        found = judge_cover(axioms, book, vocabulary)
    if found[0] == "covered":
        return ("whole", axioms, reasons, found[1], found[2])
    return ("rest", axioms, reasons, found)


def taken_holds(book, vocabulary, k, thing):
    """Whether thing is a certificate for the book, the vocabulary and at most k axioms."""
    _check(book, vocabulary, k)
    if not isinstance(thing, tuple) or not 4 <= len(thing) <= 5 or not _is_book_in(thing[1], vocabulary):
        return False
    axioms, reasons = thing[1], thing[2]
    if len(axioms) > k or not _are_reasons(book, axioms, reasons):
        return False
    if len(thing) == 5:
        return thing[0] == "whole" and table_holds(axioms, book, vocabulary, thing[3], thing[4])
    if thing[0] != "rest" or len(axioms) < k:
        return False
    if [j for j in range(k) if does_tell(axioms[:j], axioms[j][0], axioms[j][1])]:
        return False
    return sentence_holds(axioms, book, vocabulary, thing[3])


def _check(book, vocabulary, k):
    check_book(book)
    check_vocabulary(vocabulary)
    if not is_integer(k) or k < 0:
        raise BadNumber(k)


def _is_book_in(thing, vocabulary):
    """Whether thing is a book whose axioms are in the vocabulary."""
    if not is_book(thing):
        return False
    return all([is_in(left, vocabulary) and is_in(right, vocabulary) for left, right in thing])


def _are_reasons(book, axioms, thing):
    """Whether thing is a tuple with lines of the book for each of the axioms."""
    if not isinstance(thing, tuple) or len(thing) != len(axioms):
        return False
    return all([lines_hold(book, left, right, lines) for (left, right), lines in zip(axioms, thing)])
