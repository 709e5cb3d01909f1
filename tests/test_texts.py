"""tellalike.concepts: texts of concepts and books, there and back, and where they go wrong."""

import random
import unittest

from samples import A, ALL, B, C, NO_WORDS, NONE, Prefixes, both, deep, odd_values, some
from tellalike.concepts import book_text, concept_text, read_book, read_concept
from tellalike.errors import BadText

NO_STRINGS = [thing for thing in odd_values() if not isinstance(thing, str)] + [(), ALL, b"a"]


def made_concept(source, depth):
    """Some concept, nested up to the depth."""
    kind = source.randrange(6) if depth > 1 else source.randrange(3)
    if kind < 2:
        return ("word", source.choice(["a", "b", "alla", "nonesome", "so", "an", "isis", "abcdefghij"]))
    if kind == 2:
        return source.choice([ALL, NONE])
    if kind == 3:
        return some(source.choice(["r", "s", "andy", "ea", "somebody"]), made_concept(source, depth - 1))
    return both(made_concept(source, depth - 1), made_concept(source, depth - 1))


def changed_text(source, text):
    """The text with a character or two left out, added, or replaced."""
    for _ in range(source.choice([1, 1, 2])):
        at = source.randrange(len(text) + 1)
        middle = source.choice(["", " ", "(", ")", "a", "d", "is", "and", " and ", "some", "all ", "\n", "Z"])
        text = text[:at] + middle + text[at + source.randrange(3):]
    return text


class WritingTest(unittest.TestCase):

    def test_texts_of_concepts(self):
        cases = [
            (ALL, "all"), (NONE, "none"), (A, "a"), (both(A, B), "(a and b)"), (some("r", NONE), "some r none"),
            (some("r", both(A, ALL)), "some r (a and all)"), (both(some("r", A), B), "(some r a and b)"),
            (both(both(A, B), C), "((a and b) and c)"), (both(A, both(B, C)), "(a and (b and c))"),
            (some("r", some("s", A)), "some r some s a"), (some("a", A), "some a a"),
        ]
        for concept, text in cases:
            self.assertEqual(concept_text(concept), text)
            self.assertEqual(concept_text(concept=concept), text)
            self.assertEqual(read_concept(text), concept)
            self.assertEqual(read_concept(text=text), concept)

    def test_texts_of_books(self):
        cases = [
            ((), ""), (((A, B),), "each a is b"), (((A, B), (A, B)), "each a is b\neach a is b"),
            (((B, A), (A, NONE)), "each b is a\neach a is none"),
            (((both(A, B), some("r", C)), (ALL, A)), "each (a and b) is some r c\neach all is a"),
        ]
        for book, text in cases:
            self.assertEqual(book_text(book), text)
            self.assertEqual(book_text(book=book), text)
            self.assertEqual(read_book(text), book)
            self.assertEqual(read_book(text=text), book)

    def test_there_and_back(self):
        source = random.Random(7)
        for _ in range(400):
            concept = made_concept(source, 6)
            self.assertEqual(read_concept(concept_text(concept)), concept)
            book = tuple((made_concept(source, 3), made_concept(source, 3)) for _ in range(source.randrange(13)))
            self.assertEqual(read_book(book_text(book)), book)

    def test_deep_ones(self):
        self.assertEqual(read_concept(concept_text(deep(12))), deep(12))
        for text in ("(" * 40 + "a" + " and b)" * 40, "(a and " * 40 + "b" + ")" * 40, "some r " * 56 + "a"):
            self.assertEqual(concept_text(read_concept(text)), text)
        self.assertEqual(concept_text(read_concept(concept_text(deep(3000)))), concept_text(deep(3000)))


class ReadingConceptsTest(unittest.TestCase):

    def assert_wrong(self, text, at):
        with self.assertRaises(BadText) as caught:
            read_concept(text)
        self.assertEqual(caught.exception.at, at, text)
        self.assertNotIsInstance(caught.exception.at, bool)

    def test_no_string(self):
        for thing in NO_STRINGS:
            self.assert_wrong(thing, -1)

    def test_the_examples(self):
        self.assertEqual(read_concept("(a and some r none)"), both(A, some("r", NONE)))
        self.assert_wrong("some r (a", 9)
        self.assert_wrong("some all a", 8)

    def test_texts_that_end_too_soon(self):
        texts = (
            "", "(", "((", "(a", "(a ", "(a a", "(a and", "(a and ", "(a and b", "(all", "some", "some ", "some r",
            "some r ", "some r some", "some all", "and", "each", "is", "(and", "(a and is", "some r and", "(none and some",
        )
        for text in texts:
            self.assert_wrong(text, len(text))

    def test_signs_where_no_concept_starts(self):
        for text in (" a", ")", "A", "1", "\n", "\na", "-", "`", "{", "\u00e4"):
            self.assert_wrong(text, 0)
        self.assert_wrong("( a", 1)
        self.assert_wrong("()", 1)
        self.assert_wrong("(a and )", 7)
        self.assert_wrong("(a and  b)", 7)
        self.assert_wrong("some r )", 7)
        self.assert_wrong("some r  a", 7)

    def test_signs_behind_a_concept(self):
        cases = [
            ("a ", 1), ("a b", 1), ("a\n", 1), ("a)", 1), ("a and b", 1), ("all ", 3), ("all)", 3), ("none\n", 4),
            ("(a and b) ", 9), ("(a and b))", 9), ("(a and b)a", 9), ("(a and b)\n", 9), ("some r a ", 8),
            ("some r a\n", 8), ("(a and b and c)", 8), ("(a and b c)", 8), ("(a)", 2), ("(a(", 2), ("(a\n", 2),
            ("(a  and b)", 3), ("(a or b)", 3), ("(a an b)", 5), ("(a andb)", 6), ("(a and(", 6), ("(a andy b)", 6),
            ("((a and b)and c)", 10), ("((a and b) b)", 11), ("(aand b)", 6), ("aB", 1), ("a1", 1), ("(a and b(", 8),
        ]
        for text, at in cases:
            self.assert_wrong(text, at)

    def test_roles(self):
        cases = [
            ("some  r a", 5), ("some (a and b)", 5), ("some R a", 5), ("some r(a", 6), ("some r)", 6), ("some r\n", 6),
            ("some)", 4), ("some(", 4), ("some\n", 4), ("(some)", 5), ("some rA a", 6), ("some r a b", 8),
        ]
        for text, at in cases:
            self.assert_wrong(text, at)

    def test_the_six_strings_as_names_and_roles(self):
        for word in ("and", "each", "is"):
            self.assert_wrong(word + " ", len(word))
            self.assert_wrong(word + ")", len(word))
            self.assert_wrong("(" + word + " and a)", 1 + len(word))
            self.assert_wrong("(a and " + word + ")", 7 + len(word))
            self.assert_wrong("some r " + word + " a", 7 + len(word))
        for word in NO_WORDS:
            self.assert_wrong("some " + word + " a", 5 + len(word))
            self.assert_wrong("(some " + word + " a and a)", 6 + len(word))

    def test_words_that_begin_like_them(self):
        for word in NO_WORDS:
            for longer in (word + "a", word + word, word[:-1]):
                self.assertEqual(read_concept(longer), ("word", longer))
                self.assertEqual(read_concept("some " + longer + " all"), some(longer, ALL))
                concept = both(("word", longer), some(longer, ("word", longer)))
                self.assertEqual(read_concept(concept_text(concept)), concept)

    def test_words_of_ten_and_eleven_letters(self):
        ten = "abcdefghij"
        self.assertEqual(read_concept(ten), ("word", ten))
        self.assertEqual(read_concept("some " + ten + " " + ten), some(ten, ("word", ten)))
        self.assert_wrong(ten + "k", 10)
        self.assert_wrong(ten + "klm", 10)
        self.assert_wrong("(a and " + ten + "k)", 17)
        self.assert_wrong("some " + ten + "k a", 15)
        self.assert_wrong("some r " + ten + "k", 17)
        self.assert_wrong("somebodyelse", 10)

    def test_every_text_of_few_signs(self):
        prefixes = Prefixes()
        todo = [""]
        while todo:
            text = todo.pop()
            self.assert_like(prefixes, text)
            if len(text) < 4 and (not text or prefixes.first_wrong(text) in (None, len(text))):
                todo.extend([text + sign for sign in "aeis( )n\n"])

    def test_changed_texts(self):
        source = random.Random(11)
        prefixes = Prefixes()
        for _ in range(1500):
            text = concept_text(made_concept(source, 4))
            self.assert_like(prefixes, changed_text(source, text))
            self.assert_like(prefixes, text[:source.randrange(len(text))])

    def assert_like(self, prefixes, text):
        at = prefixes.first_wrong(text)
        if at is None:
            self.assertEqual(concept_text(read_concept(text)), text)
        else:
            self.assert_wrong(text, at)


class ReadingBooksTest(unittest.TestCase):

    def assert_wrong(self, text, at):
        with self.assertRaises(BadText) as caught:
            read_book(text)
        self.assertEqual(caught.exception.at, at, text)

    def test_the_example(self):
        self.assertEqual(read_book("each a is some r b\neach b is none"), ((A, some("r", B)), (B, NONE)))
        self.assertEqual(read_book(""), ())

    def test_no_string(self):
        for thing in NO_STRINGS:
            self.assert_wrong(thing, 0)

    def test_the_first_wrong_line(self):
        right = "each a is b"
        self.assert_wrong("x", 1)
        self.assert_wrong(right + "\nx", 2)
        self.assert_wrong(right + "\n" + right + "\nx\ny", 3)
        self.assert_wrong("x\n" + right, 1)

    def test_line_feeds(self):
        self.assert_wrong("\n", 1)
        self.assert_wrong("each a is b\n", 2)
        self.assert_wrong("\neach a is b", 1)
        self.assert_wrong("each a is b\n\neach a is b", 2)
        self.assert_wrong("each a is b\r\neach a is b", 1)
        self.assert_wrong("each a\n is b", 1)

    def test_wrong_sentences(self):
        wrong = (
            "a", "each", "each ", "each a", "each a ", "each a is", "each a is ", "each  is b", "each is b",
            "each is is b", "each a is is", "each a is b ", " each a is b", "each  a is b", "each a  is b",
            "each a is  b", "each a is b is c", "each a is is b", "Each a is b", "a is b", "each a and b", "eacha is b",
            "each ais b", "each a isb", "each (a is b)", "each a is (b", "each a is (b and c) ", "each a is and",
            "each all a is b", "each a is b each a is b", "each some is b", "each a is some r", "each some r is b",
            "each abcdefghijk is a", "each a is abcdefghijk", "each a is none b", "each each is is",
        )
        for line in wrong:
            self.assert_wrong(line, 1)
            self.assert_wrong("each a is b\n" + line, 2)

    def test_words_that_begin_like_those_of_sentences(self):
        book = ((("word", "isa"), ("word", "eachis")), (some("isis", ("word", "is" * 5)), ("word", "ea")))
        self.assertEqual(read_book(book_text(book)), book)


if __name__ == "__main__":
    unittest.main()
