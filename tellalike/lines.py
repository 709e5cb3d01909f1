"""Derivations: lines that lead from the axioms of a book to what it tells."""

from tellalike.concepts import check_book, check_concept, is_concept, is_word
from tellalike.errors import BadLines
from tellalike.forms import is_integer
from tellalike.tables import Table

LARGEST = 50000


def are_lines(book, thing):
    """Whether thing is the lines of a derivation from the book."""
    check_book(book)
    return _read(book, thing) is not None


def sentences_of(book, lines):
    """The tuple of the sentences of the lines."""
    check_book(book)
    reading = _read(book, lines)
    if reading is None:
        raise BadLines(lines)
    concepts = reading.table.concepts
    return tuple([(concepts[left], concepts[right]) for left, right in reading.sentences])


def lines_hold(book, left, right, thing):
    """Whether thing is lines of the book, and the last one has the sentence (left, right)."""
    check_book(book)
    check_concept(left)
    check_concept(right)
    reading = _read(book, thing)
    if reading is None or not reading.sentences:
        return False
    wanted = (reading.table.number_of(left), reading.table.number_of(right))
    return reading.sentences[-1] == wanted


class Reading:
    """Lines of a book that have been read: their sentences, with the numbers of the concepts in a table."""

    def __init__(self, book):
        self.table = Table()
        self.sentences = []
        self._book = book
        self._axioms = {}

    def axiom(self, j):
        """The sentence of the axiom at the position j, in numbers."""
        if j not in self._axioms:
            left, right = self._book[j]
            self._axioms[j] = (self.table.number_of(left), self.table.number_of(right))
        return self._axioms[j]

    def has_axiom(self, thing):
        """Whether thing is the position of an axiom."""
        return is_integer(thing) and 0 <= thing < len(self._book)

    def has_line(self, thing):
        """Whether thing is the position of a line that has been read."""
        return is_integer(thing) and 0 <= thing < len(self.sentences)


def _read(book, thing):
    """What has been read when thing is read as lines of the book; None if it is not lines."""
    if not isinstance(thing, tuple):
        return None
    reading = Reading(book)
    for line in thing:
        sentence = _sentence_of(reading, line)
        if sentence is None or reading.table.sizes[sentence[1]] > LARGEST:
            return None
        reading.sentences.append(sentence)
    return reading


def _sentence_of(reading, line):
    """The sentence of a value as the next line, in numbers; None if it cannot be the next line."""
    if not isinstance(line, tuple) or len(line) == 0 or not isinstance(line[0], str):
        return None
    if LENGTHS.get(line[0]) != len(line):
        return None
    rule = RULES[line[0]]
    return rule(reading, line)


def _same(reading, line):
    if not is_concept(line[1]):
        return None
    concept = reading.table.number_of(line[1])
    return (concept, concept)


def _all(reading, line):
    if not is_concept(line[1]):
        return None
    return (reading.table.number_of(line[1]), reading.table.number_of(("all",)))


def _none(reading, line):
    if not is_concept(line[1]):
        return None
    return (reading.table.number_of(("none",)), reading.table.number_of(line[1]))


def _axiom(reading, line):
    if not reading.has_axiom(line[1]):
        return None
    return reading.axiom(line[1])


def _left(reading, line):
    if not is_concept(line[1]) or not is_concept(line[2]):
        return None
    first = reading.table.number_of(line[1])
    return (reading.table.number_of_and(first, reading.table.number_of(line[2])), first)


def _right(reading, line):
    if not is_concept(line[1]) or not is_concept(line[2]):
        return None
    first = reading.table.number_of(line[1])
    second = reading.table.number_of(line[2])
    return (reading.table.number_of_and(first, second), second)


def _both(reading, line):
    if not reading.has_line(line[1]) or not reading.has_line(line[2]):
        return None
    left, first = reading.sentences[line[1]]
    second_left, second = reading.sentences[line[2]]
    return (left, reading.table.number_of_and(first, second)) if left == second_left else None


def _chain(reading, line):
    if not reading.has_line(line[1]) or not reading.has_line(line[2]):
        return None
    left, middle = reading.sentences[line[1]]
    second_middle, right = reading.sentences[line[2]]
    return (left, right) if middle == second_middle else None


def _lift(reading, line):
    if not is_word(line[1]) or not reading.has_line(line[2]):
        return None
    left, right = reading.sentences[line[2]]
    return (reading.table.number_of_some(line[1], left), reading.table.number_of_some(line[1], right))


def _void(reading, line):
    if not is_word(line[1]):
        return None
    none = reading.table.number_of(("none",))
    return (reading.table.number_of_some(line[1], none), none)


LENGTHS = {
    "same": 2, "all": 2, "none": 2, "axiom": 2, "left": 3, "right": 3, "both": 3, "chain": 3, "lift": 3, "void": 2,
}
RULES = {
    "same": _same, "all": _all, "none": _none, "axiom": _axiom, "left": _left, "right": _right,
    "both": _both, "chain": _chain, "lift": _lift, "void": _void,
}
