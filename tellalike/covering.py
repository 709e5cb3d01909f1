"""Whether one book tells all that another one tells in the words of a vocabulary, with tables and sentences."""

from tellalike.comparing import Comparison, table_holds
from tellalike.concepts import check_book, check_vocabulary


def does_cover(one, other, vocabulary):
    """Whether one tells each sentence in the vocabulary that other tells."""
    return _compared(one, other, vocabulary).left is None


def are_alike(one, other, vocabulary):
    """Whether each of the two books covers the other one for the vocabulary."""
    covering = _compared(one, other, vocabulary)
    covered = _compared(other, one, vocabulary)
    return covering.left is None and covered.left is None


def judge_cover(one, other, vocabulary):
    """A certificate: ("covered", pairs, states), or ("sentence", left, right, lines, world, x)."""
    return _compared(one, other, vocabulary).certificate()


def cover_holds(one, other, vocabulary, thing):
    """Whether thing is a certificate for the two books and the vocabulary."""
    comparison = _compared(one, other, vocabulary)
    if isinstance(thing, tuple) and len(thing) == 3 and thing[0] == "covered":
        return table_holds(one, other, vocabulary, thing[1], thing[2])
    return comparison.is_sentence(thing)


def _compared(one, other, vocabulary):
    check_book(one)
    check_book(other)
    check_vocabulary(vocabulary)
    return Comparison(one, other, vocabulary)
