"""Two editions of a base book joined, and what becomes of each side."""

from tellalike.concepts import check_book, check_vocabulary
from tellalike.covering import cover_holds, judge_cover
from tellalike.telling import does_tell, judge_told, told_holds

NOTHING = ("none",)


def join(base, left, right):
    """The book of the axioms of base that both sides have kept, and of those that the sides have added."""
    _check_books(base, left, right)
    kept = [axiom for axiom in base if axiom in left and axiom in right]
    added = [axiom for axiom in left + right if axiom not in base]
    found = []
    for axiom in kept + added:
        if axiom not in found:
            found.append(axiom)
    return tuple(found)


def judge_join(base, left, right, vocabulary):
    """A certificate ("joined", of left, of right, quarrels)."""
    names = quarrels(base, left, right, vocabulary)
    whole = join(base, left, right)
    rows = []
    for name in names:
        word = ("word", name)
        worlds = (judge_told(left, word, NOTHING), judge_told(right, word, NOTHING))
        rows.append((name, judge_told(whole, word, NOTHING)[1], worlds))
    return ("joined", judge_cover(whole, left, vocabulary), judge_cover(whole, right, vocabulary), tuple(rows))


def join_holds(base, left, right, vocabulary, thing):
    """Whether thing is a certificate for the three books and the vocabulary."""
    names = quarrels(base, left, right, vocabulary)
    if not isinstance(thing, tuple) or len(thing) != 4 or thing[0] != "joined":
        return False
    _, of_left, of_right, rows = thing
    if not isinstance(rows, tuple) or len(rows) != len(names):
        return False
    whole = join(base, left, right)
    if not all([_is_quarrel(whole, left, right, name, row) for name, row in zip(names, rows)]):
        return False
    return cover_holds(whole, left, vocabulary, of_left) and cover_holds(whole, right, vocabulary, of_right)


def quarrels(base, left, right, vocabulary):
    """The ascending tuple of the names of the vocabulary that are none by the join, and by neither of the sides."""
    _check_books(base, left, right)
    check_vocabulary(vocabulary)
    whole = join(base, left, right)
    empty = [name for name in vocabulary[0] if _is_nothing(whole, name)]
    return tuple([name for name in empty if not _is_nothing(left, name) and not _is_nothing(right, name)])


def _check_books(base, left, right):
    check_book(base)
    check_book(left)
    check_book(right)


def _is_nothing(book, name):
    return does_tell(book, ("word", name), NOTHING)


def _is_quarrel(whole, left, right, name, thing):
    """Whether thing is the name with lines of the join, and worlds for the two sides."""
    if not isinstance(thing, tuple) or len(thing) != 3 or thing[0] != name:
        return False
    _, lines, worlds = thing
    word = ("word", name)
    if not told_holds(whole, word, NOTHING, ("told", lines)) or not isinstance(worlds, tuple) or len(worlds) != 2:
        return False
    return told_holds(left, word, NOTHING, worlds[0]) and told_holds(right, word, NOTHING, worlds[1])
