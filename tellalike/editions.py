"""Editions of a book: which vocabularies see what has changed between them."""

from tellalike.comparing import sentence_holds, table_holds
from tellalike.concepts import check_book, check_vocabulary, is_book
from tellalike.covering import are_alike, judge_cover
from tellalike.errors import BadEditions
from tellalike.forms import is_ascending


def does_see(one, other, vocabulary):
    """Whether the vocabulary sees the change between the two books."""
    return not are_alike(one, other, vocabulary)


def judge_border(one, other, vocabulary):
    """A certificate ("border", seen, unseen) for the change from one to other and the whole vocabulary."""
    check_book(one)
    check_book(other)
    check_vocabulary(vocabulary)
    seen = []
    unseen = []
    for few in sorted(_contained(vocabulary), key=_width):
        # What contains a vocabulary that sees the change sees it, too, and is not one of the least ones.
        if not _is_above(few, seen):
            lost = judge_cover(other, one, few)
            new = judge_cover(one, other, few) if lost[0] == "covered" else None
            if new is None:
                seen.append((few, "lost", lost))
            elif new[0] == "sentence":
                seen.append((few, "new", new))
            else:
                unseen.append((few, lost[1], lost[2], new[1], new[2]))
    greatest = [row for row in unseen if not _is_below(row[0], [more for more in unseen if more[0] != row[0]])]
    return ("border", _by_vocabulary(seen), _by_vocabulary(greatest))


def border_holds(one, other, vocabulary, thing):
    """Whether thing is a certificate for the change from one to other and the whole vocabulary."""
    check_book(one)
    check_book(other)
    check_vocabulary(vocabulary)
    if not isinstance(thing, tuple) or len(thing) != 3 or thing[0] != "border":
        return False
    _, seen, unseen = thing
    whole = _contained(vocabulary)
    if not _are_rows(seen, 3, whole) or not _are_rows(unseen, 5, whole):
        return False
    # Each vocabulary is on just one side of the border.
    if not all([_is_above(few, seen) != _is_below(few, unseen) for few in whole]):
        return False
    if not all([_is_seen(one, other, row) for row in seen]):
        return False
    return all([_is_unseen(one, other, row) for row in unseen])


def steps(editions, vocabulary):
    """The ascending tuple of the positions of the editions at which the vocabulary sees the change."""
    _check(editions, vocabulary)
    return tuple([k for k in range(1, len(editions)) if does_see(editions[k - 1], editions[k], vocabulary)])


def first_like(editions, vocabulary):
    """For each of the editions the least position of a book that is alike to it for the vocabulary."""
    _check(editions, vocabulary)
    found = []
    for k, book in enumerate(editions):
        # Being alike is an equivalence, so only the first books of each kind have to be asked.
        like = [first for first in sorted(set(found)) if are_alike(editions[first], book, vocabulary)]
        found.append(like[0] if like else k)
    return tuple(found)


def _check(editions, vocabulary):
    if not isinstance(editions, tuple) or not 2 <= len(editions) <= 4 or not all([is_book(book) for book in editions]):
        raise BadEditions(editions)
    check_vocabulary(vocabulary)


def _contained(vocabulary):
    """The list of the vocabularies that the vocabulary contains."""
    names, roles = vocabulary
    return [(few, ties) for few in _choices(names) for ties in _choices(roles)]


def _choices(words):
    """All tuples of some of the words, in their order."""
    found = [()]
    for word in words:
        found = found + [chosen + (word,) for chosen in found]
    return found


def _contains(vocabulary, few):
    return all([name in vocabulary[0] for name in few[0]]) and all([role in vocabulary[1] for role in few[1]])


def _width(vocabulary):
    return len(vocabulary[0]) + len(vocabulary[1])


def _is_above(vocabulary, rows):
    """Whether the vocabulary contains that of one of the rows."""
    return any([_contains(vocabulary, row[0]) for row in rows])


def _is_below(vocabulary, rows):
    """Whether the vocabulary is contained in that of one of the rows."""
    return any([_contains(row[0], vocabulary) for row in rows])


def _by_vocabulary(rows):
    # No vocabulary is there twice, so nothing else of the rows is compared.
    return tuple(sorted(rows))


def _are_rows(thing, many, whole):
    """Whether thing is tuples of so many values, with ascending vocabularies of the whole one, none in another."""
    if not isinstance(thing, tuple):
        return False
    for row in thing:
        if not isinstance(row, tuple) or len(row) != many or row[0] not in whole:
            return False
    few = [row[0] for row in thing]
    return is_ascending(few) and not [one for one in few for other in few if one != other and _contains(one, other)]


def _is_seen(one, other, row):
    """Whether a row of a vocabulary and two values has a side, and the sentence that is lost or new."""
    vocabulary, side, sentence = row
    if side == "lost":
        return sentence_holds(other, one, vocabulary, sentence)
    return side == "new" and sentence_holds(one, other, vocabulary, sentence)


def _is_unseen(one, other, row):
    """Whether a row of a vocabulary and four values has the tables by which each book covers the other one."""
    vocabulary, pairs, states, more_pairs, more_states = row
    if not table_holds(other, one, vocabulary, pairs, states):
        return False
    return table_holds(one, other, vocabulary, more_pairs, more_states)
