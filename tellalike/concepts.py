"""Concepts, books and vocabularies, and the texts of concepts and books."""

from tellalike.errors import BadBook, BadConcept, BadText, BadVocabulary
from tellalike.forms import ascending, is_ascending, is_pair

LONGEST_WORD = 10
NO_WORDS = ("all", "none", "some", "and", "each", "is")


def is_word(thing):
    """Whether thing is 1 to 10 letters from a to z, and none of the six strings that are no words."""
    if not isinstance(thing, str) or not 1 <= len(thing) <= LONGEST_WORD:
        return False
    return thing not in NO_WORDS and all([_is_letter(sign) for sign in thing])


def is_concept(thing):
    """Whether thing is a concept."""
    todo = [thing]
    while todo:
        needed = _inner(todo.pop())
        if needed is None:
            return False
        todo.extend(needed)
    return True


def is_book(thing):
    """Whether thing is a tuple of pairs of concepts."""
    if not isinstance(thing, tuple):
        return False
    for axiom in thing:
        if not is_pair(axiom) or not is_concept(axiom[0]) or not is_concept(axiom[1]):
            return False
    return True


def is_vocabulary(thing):
    """Whether thing is a pair of ascending tuples of words."""
    return is_pair(thing) and _are_words(thing[0]) and _are_words(thing[1])


def size(concept):
    """How many names, alls, nones and "some" are written in the concept."""
    check_concept(concept)
    return len([item for item in bottom_up(concept) if item[0] != "and"])


def parts(concept):
    """The ascending tuple of the concept and all concepts of which it is built."""
    check_concept(concept)
    return ascending(bottom_up(concept))


def vocabulary_of(concept):
    """The vocabulary with just the names and roles of the concept."""
    check_concept(concept)
    return _words_of(bottom_up(concept))


def vocabulary_of_book(book):
    """The vocabulary with just the names and roles of the book."""
    check_book(book)
    items = []
    for left, right in book:
        items.extend(bottom_up(left))
        items.extend(bottom_up(right))
    return _words_of(items)


def is_in(concept, vocabulary):
    """Whether all names and roles of the concept are in the vocabulary."""
    check_concept(concept)
    check_vocabulary(vocabulary)
    names, roles = _words_of(bottom_up(concept))
    return all([name in vocabulary[0] for name in names]) and all([role in vocabulary[1] for role in roles])


def concept_text(concept):
    """The text of the concept."""
    check_concept(concept)
    return _text_of(concept)


def book_text(book):
    """The text of the book: a line for each axiom."""
    check_book(book)
    return "\n".join([f"each {_text_of(left)} is {_text_of(right)}" for left, right in book])


def read_concept(text):
    """The concept with the text; raises BadText with the position where no concept can go on."""
    if not isinstance(text, str):
        raise BadText(-1)
    begun = []
    at, done = _read_next(text, 0, begun)
    while begun:
        at, done = _read_next(text, at, begun)
    if at < len(text):
        raise BadText(at)
    return done


def read_book(text):
    """The book with the text; raises BadText with the number of the first line that is wrong."""
    if not isinstance(text, str):
        raise BadText(0)
    if text == "":
        return ()
    axioms = []
    for line in text.split("\n"):
        try:
            axioms.append(_read_sentence(line))
        except BadText:
            raise BadText(len(axioms) + 1) from None
    return tuple(axioms)


def check_concept(thing):
    """Raises BadConcept unless thing is a concept."""
    if not is_concept(thing):
        raise BadConcept(thing)


def check_book(thing):
    """Raises BadBook unless thing is a book."""
    if not is_book(thing):
        raise BadBook(thing)


def check_vocabulary(thing):
    """Raises BadVocabulary unless thing is a vocabulary."""
    if not is_vocabulary(thing):
        raise BadVocabulary(thing)


def bottom_up(concept):
    """The concept and all of which it is built, as often as it is written, each behind its own inner ones.

    The inner concepts of an "and" stand in their order. (No recursion here or elsewhere in this
    file: texts may be nested deeper than Python calls should be.)
    """
    todo = [concept]
    found = []
    while todo:
        item = todo.pop()
        found.append(item)
        todo.extend(_inner(item))
    return found[::-1]


def _inner(thing):
    """The values directly in thing that must be concepts for it to be one; None if it is none anyway."""
    if not isinstance(thing, tuple):
        return None
    if thing == ("all",) or thing == ("none",):
        return ()
    if len(thing) == 2 and thing[0] == "word" and is_word(thing[1]):
        return ()
    if len(thing) == 3 and thing[0] == "and":
        return thing[1:]
    if len(thing) == 3 and thing[0] == "some" and is_word(thing[1]):
        return thing[2:]
    return None


def _is_letter(sign):
    return "a" <= sign <= "z"


def _are_words(thing):
    """Whether thing is an ascending tuple of words."""
    return isinstance(thing, tuple) and all([is_word(word) for word in thing]) and is_ascending(thing)


def _words_of(items):
    """The vocabulary of the names and roles that stand directly in the items."""
    names = sorted({item[1] for item in items if item[0] == "word"})
    roles = sorted({item[1] for item in items if item[0] == "some"})
    return (tuple(names), tuple(roles))


def _text_of(concept):
    """The text of what surely is a concept."""
    pieces = []
    todo = [concept]
    while todo:
        item = todo.pop()
        if isinstance(item, str):
            pieces.append(item)
        elif item[0] == "and":
            todo.extend([")", item[2], " and ", item[1], "("])
        elif item[0] == "some":
            todo.extend([item[2], f"some {item[1]} "])
        else:
            # The last item is the name, or the word all or none.
            pieces.append(item[-1])
    return "".join(pieces)


def _read_next(text, at, begun):
    """Reads from the start of a concept to where another one starts, or to the end of the outermost one.

    Returns the position behind what was read, and the last concept that has ended.
    """
    at, done = _read_down(text, at, begun)
    return _read_up(text, at, begun, done)


def _read_down(text, at, begun):
    """Reads from the start of a concept to the end of the first one that has no inner ones.

    What begins on the way is put behind begun: ("some", role), or ("and",) for a bracket.
    Returns the position behind what was read, and the last concept.
    """
    while True:
        if text.startswith("(", at):
            begun.append(("and",))
            at = at + 1
        else:
            word = _letters(text, at)
            at = at + len(word)
            if word != "some":
                return at, _simple(word, at)
            at, role = _read_role(text, at)
            begun.append(("some", role))


def _read_up(text, at, begun, done):
    """Reads what must stand behind the concept done, up to where another concept starts, if any does.

    What ends on the way is taken from begun; ("and", left) stays where a right concept follows.
    Returns the position behind what was read, and the last concept that has ended.
    """
    while begun:
        start = begun.pop()
        if start[0] == "some":
            done = ("some", start[1], done)
        elif len(start) == 1:
            begun.append(("and", done))
            return _skip(text, at, " and "), done
        else:
            at = _skip(text, at, ")")
            done = ("and", start[1], done)
    return at, done


def _read_role(text, at):
    """The position behind the role, with its blanks, that must follow "some" at this position; the role."""
    start = _skip(text, at, " ")
    role = _letters(text, start)
    end = start + len(role)
    if not is_word(role):
        raise BadText(end)
    return _skip(text, end, " "), role


def _simple(word, end):
    """The concept with the text word, letters or nothing, which ends at the position end."""
    if word == "all" or word == "none":
        return (word,)
    if not is_word(word):
        raise BadText(end)
    return ("word", word)


def _letters(text, start):
    """The letters that stand from start on, perhaps none, but not more than a word has."""
    end = start
    while end < len(text) and _is_letter(text[end]):
        if end - start == LONGEST_WORD:
            raise BadText(end)
        end = end + 1
    return text[start:end]


def _skip(text, at, signs):
    """The position behind the signs, which must stand at this position."""
    for sign in signs:
        if not text.startswith(sign, at):
            raise BadText(at)
        at = at + 1
    return at


def _read_sentence(line):
    """The sentence with the text line."""
    start = _skip(line, 0, "each ")
    # No concept has a blank beside the letters "is", so the first such place is the only one.
    left, _, right = line[start:].partition(" is ")
    return (read_concept(left), read_concept(right))
