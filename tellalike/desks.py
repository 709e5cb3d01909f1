"""A desk: a book on which deeds are done, undone and redone, with marks of what it was."""

from tellalike.concepts import book_text, check_book, is_book, is_word, read_book
from tellalike.covering import judge_cover
from tellalike.errors import BadDeed, BadText, BadWord, NothingToRedo, NothingToUndo
from tellalike.forms import is_integer
from tellalike.joins import join
from tellalike.telling import does_tell

MARK = "mark "


class Desk:
    """A book with marks, and with deeds that can be undone and redone.

    What the desk has is a pair (book, marks); `_before` has the pairs from before the deeds that can be undone, and
    `_after` those from after the deeds that can be redone, the next one last in both.
    """

    def __init__(self, book):
        check_book(book)
        self._book = book
        self._marks = ()
        self._before = []
        self._after = []

    def __eq__(self, other):
        return isinstance(other, Desk) and self._book == other._book and self._marks == other._marks

    def book(self):
        """The book."""
        return self._book

    def marks(self):
        """The marks, an ascending tuple of pairs (word, book)."""
        return self._marks

    def text(self):
        """The text of the desk."""
        return _text_of(self._book, self._marks)

    def copied(self):
        """An equal desk with the same deeds to undo and redo, which goes its own way."""
        other = Desk(self._book)
        other._marks = self._marks
        other._before = list(self._before)
        other._after = list(self._after)
        return other

    def do(self, deed):
        """Does the deed; raises BadDeed if it is not one that can be done."""
        done = _result(self._book, self._marks, deed)
        if done is None:
            raise BadDeed(deed)
        self._before.append((self._book, self._marks))
        self._after = []
        self._book, self._marks = done

    def undo(self):
        """Undoes the last deed that is done."""
        if not self._before:
            raise NothingToUndo()
        self._after.append((self._book, self._marks))
        self._book, self._marks = self._before.pop()

    def redo(self):
        """Does the last deed again that was undone."""
        if not self._after:
            raise NothingToRedo()
        self._before.append((self._book, self._marks))
        self._book, self._marks = self._after.pop()

    def tells(self, left, right):
        """Whether the book tells that each left is a right."""
        return does_tell(self._book, left, right)

    def since(self, word, vocabulary):
        """What the book has gained over that of a mark, and lost, in the vocabulary: a pair of certificates."""
        marked = _book_at(self._marks, word)
        if marked is None:
            raise BadWord(word)
        return (judge_cover(marked, self._book, vocabulary), judge_cover(self._book, marked, vocabulary))


def read_desk(text):
    """The desk with the text; raises BadText with the number of the first line that is wrong."""
    if not isinstance(text, str):
        raise BadText(0)
    words = []
    books = [[]]
    lines = text.split("\n") if text else []
    for at, line in enumerate(lines):
        if line.startswith(MARK):
            words.append(_read_mark(line, at + 1, words))
            books.append([])
        else:
            books[-1].extend(_read_axiom(line, at + 1))
    desk = Desk(tuple(books[0]))
    desk._marks = tuple([(word, tuple(axioms)) for word, axioms in zip(words, books[1:])])
    return desk


def _read_mark(line, number, words):
    """The word of the mark on the line with this number; words are those of the marks before."""
    word = line[len(MARK):]
    if not is_word(word) or words and word <= words[-1]:
        raise BadText(number)
    return word


def _read_axiom(line, number):
    """The book of the one axiom on the line with this number."""
    try:
        axioms = read_book(line)
    except BadText:
        raise BadText(number) from None
    if not axioms:
        raise BadText(number)
    return axioms


def _text_of(book, marks):
    rows = [book_text(book)] if book else []
    for word, marked in marks:
        rows.append(MARK + word)
        if marked:
            rows.append(book_text(marked))
    return "\n".join(rows)


def _book_at(marks, word):
    """The book of the mark with the word, which may be any value; None if there is none."""
    for known, marked in marks:
        if known == word:
            return marked
    return None


def _result(book, marks, deed):
    """The pair of the book and the marks after the deed; None if it is not a deed that can be done."""
    if not isinstance(deed, tuple) or len(deed) == 0 or not isinstance(deed[0], str):
        return None
    if LENGTHS.get(deed[0]) != len(deed):
        return None
    act = ACTS[deed[0]]
    return act(book, marks, deed)


def _add(book, marks, deed):
    return (book + deed[1:], marks) if is_book(deed[1:]) else None


def _drop(book, marks, deed):
    k = deed[1]
    return (book[:k] + book[k + 1:], marks) if _is_position(book, k) else None


def _put(book, marks, deed):
    k = deed[1]
    if not _is_position(book, k) or not is_book(deed[2:]):
        return None
    return (book[:k] + deed[2:] + book[k + 1:], marks)


def _mark(book, marks, deed):
    if not is_word(deed[1]):
        return None
    return (book, tuple(sorted(_other_marks(marks, deed[1]) + [(deed[1], book)])))


def _unmark(book, marks, deed):
    if _book_at(marks, deed[1]) is None:
        return None
    return (book, tuple(_other_marks(marks, deed[1])))


def _back(book, marks, deed):
    marked = _book_at(marks, deed[1])
    return None if marked is None else (marked, marks)


def _join(book, marks, deed):
    base = _book_at(marks, deed[1])
    side = _book_at(marks, deed[2])
    if base is None or side is None:
        return None
    return (join(base, book, side), marks)


def _is_position(book, k):
    return is_integer(k) and 0 <= k < len(book)


def _other_marks(marks, word):
    """The list of the marks with other words."""
    return [row for row in marks if row[0] != word]


LENGTHS = {"add": 2, "drop": 2, "put": 3, "mark": 2, "unmark": 2, "back": 2, "join": 3}
ACTS = {
    "add": _add, "drop": _drop, "put": _put, "mark": _mark, "unmark": _unmark, "back": _back, "join": _join,
}
