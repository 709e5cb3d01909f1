"""tellalike.concepts: what words, concepts, books and vocabularies are, sizes, parts and vocabularies of them."""

import copy
import itertools
import unittest

from samples import A, ALL, B, C, NO_WORDS, NONE, both, deep, odd_values, some
from tellalike import concepts
from tellalike.concepts import is_book, is_concept, is_in, is_vocabulary, is_word
from tellalike.concepts import parts, size, vocabulary_of, vocabulary_of_book
from tellalike.errors import BadBook, BadConcept, BadVocabulary, NothingToRedo

EXAMPLE = some("r", both(A, ALL))


class WordsTest(unittest.TestCase):

    def test_words(self):
        for word in ("a", "z", "az", "abcdefghij", "zzzzzzzzzz", "word", "or", "not", "mark"):
            self.assertIs(is_word(word), True, word)

    def test_the_lengths(self):
        self.assertIs(is_word("a" * 10), True)
        self.assertIs(is_word("a" * 11), False)
        self.assertIs(is_word(""), False)
        self.assertIs(is_word("a" * 1000), False)

    def test_the_six_strings_and_words_that_begin_with_them(self):
        for text in NO_WORDS:
            self.assertIs(is_word(text), False, text)
            for word in (text + "a", text + "s", text + text, "a" + text, text[:-1]):
                self.assertIs(is_word(word), True, word)

    def test_other_characters(self):
        for text in ("a\n", "\na", "a ", " a", "A", "aB", "a1", "1", "a_b", "a-b", "`", "{", "\u00e4", "a\u00df", "\u00aa", "(a)"):
            self.assertIs(is_word(text), False, text)

    def test_other_values(self):
        for thing in (None, True, 1, ("a",), ["a"], {"a": 1}, ("a", "b"), b"a", NothingToRedo()):
            self.assertIs(is_word(thing), False)


class ConceptsTest(unittest.TestCase):

    def test_the_five_kinds(self):
        for thing in (ALL, NONE, A, both(A, B), some("r", A), EXAMPLE, both(both(A, NONE), some("a", some("b", ALL)))):
            self.assertIs(is_concept(thing), True, thing)

    def test_kinds_that_are_words_are_names_too(self):
        for thing in (("word", "word"), some("word", ("word", "mark"))):
            self.assertIs(is_concept(thing), True, thing)

    def test_other_values(self):
        for thing in odd_values() + [()]:
            self.assertIs(is_concept(thing), False, thing)

    def test_lengths(self):
        wrong = [
            ("all", "a"), ("none", ALL), ("all", ()), ("word",), ("word", "a", "b"), ("and",), ("and", A),
            ("and", A, B, C), ("some",), ("some", "r"), ("some", A), ("some", "r", A, B), ("some", A, B),
        ]
        for thing in wrong:
            self.assertIs(is_concept(thing), False, thing)

    def test_words_and_concepts_in_the_wrong_place(self):
        wrong = [
            ("word", "all"), ("word", "is"), ("word", "a" * 11), ("word", "A"), ("word", "a\n"), ("word", A),
            ("some", "some", A), ("some", "r\n", A), ("some", A, "r"), ("some", ("r",), A), ("some", 1, A),
            ("and", "a", "b"), ("and", A, "b"), ("and", "r", A), ("or", A, B), ("each", "r", A), ("none", "r", A),
            ("ALL",), ("a",), ("word ", "a"), (True,), ("and", A, None), ("and", True, A), (["and"], A, B),
        ]
        for thing in wrong:
            self.assertIs(is_concept(thing), False, thing)

    def test_a_list_in_the_place_of_a_tuple(self):
        for thing in (["all"], ["word", "a"], ["and", A, B], ("and", ["all"], A), some("r", ["word", "a"])):
            self.assertIs(is_concept(thing), False, thing)

    def test_what_is_none_deep_inside(self):
        for wrong in (None, ("word", "and"), ["all"], (), ("all", "all"), True):
            thing = wrong
            for step in range(12):
                thing = both(thing, A) if step % 3 == 0 else both(A, thing) if step % 3 == 1 else some("r", thing)
                self.assertIs(is_concept(thing), False, thing)

    def test_deep_ones(self):
        self.assertIs(is_concept(deep(12)), True)
        self.assertIs(is_concept(deep(5000)), True)


class BooksTest(unittest.TestCase):

    def test_books(self):
        for thing in ((), ((A, B),), ((A, B), (A, B)), ((B, A), (A, B)), ((deep(12), EXAMPLE),) * 12):
            self.assertIs(is_book(thing), True, thing)

    def test_other_values(self):
        for thing in odd_values():
            self.assertIs(is_book(thing), False, thing)

    def test_wrong_axioms(self):
        wrong = [
            (A, B), ((A,),), ((A, B, C),), ([A, B],), [(A, B)], ((A, B), ()), ((A, B), None), ((A, B), (B, "c")),
            ((A, B), (("word", "all"), A)), ((A, ["all"]),), ((A, B), (A, both(B, some("r", ("word", "A"))))), ALL,
        ]
        for thing in wrong:
            self.assertIs(is_book(thing), False, thing)


class VocabulariesTest(unittest.TestCase):

    def test_vocabularies(self):
        for thing in (((), ()), (("a",), ()), ((), ("r",)), (("a", "b"), ("a", "r")), (("ab", "abc", "b"), ())):
            self.assertIs(is_vocabulary(thing), True, thing)

    def test_other_values(self):
        for thing in odd_values() + [()]:
            self.assertIs(is_vocabulary(thing), False, thing)

    def test_wrong_ones(self):
        wrong = [
            ((),), ((), (), ()), ((), []), ([], ()), (["a"], ()), (("b", "a"), ()), ((), ("s", "r")), (("a", "a"), ()),
            ((), ("r", "r")), (("a", "all"), ()), ((), ("and",)), (("a", 1), ()), ((1, "a"), ()), ((True,), ()),
            ("ab", ()), ((), "r"), ((A,), ()), (("a" * 11,), ()), (("a\n",), ()), (("A", "b"), ()), (("",), ()),
            ((("a",),), ()), (("a", ["b"]), ()), (({}, "b"), ()), (None, None), (("a", "c", "b"), ("r",)),
        ]
        for thing in wrong:
            self.assertIs(is_vocabulary(thing), False, thing)


class SizesAndPartsTest(unittest.TestCase):

    def test_sizes(self):
        cases = [
            (ALL, 1), (NONE, 1), (A, 1), (both(A, A), 2), (some("r", ALL), 2), (EXAMPLE, 3),
            (both(both(A, B), both(C, NONE)), 4), (some("r", some("s", A)), 3), (both(some("r", A), some("r", A)), 4),
        ]
        for concept, number in cases:
            self.assertEqual(size(concept), number, concept)
        self.assertEqual(size(deep(12)), 12)

    def test_parts(self):
        self.assertEqual(parts(ALL), (ALL,))
        self.assertEqual(parts(A), (A,))
        self.assertEqual(parts(both(B, A)), (both(B, A), A, B))
        self.assertEqual(parts(some("r", A)), (some("r", A), A))
        self.assertEqual(parts(some("r", some("r", NONE))), (NONE, some("r", NONE), some("r", some("r", NONE))))

    def test_a_part_at_several_places_comes_once(self):
        twice = both(some("r", both(A, B)), both(both(A, B), A))
        self.assertEqual(parts(twice), tuple(sorted([twice, twice[1], twice[2], both(A, B), A, B])))

    def test_one_word_as_name_and_as_role(self):
        concept = both(some("a", A), some("b", ("word", "a")))
        self.assertEqual(parts(concept), (concept, some("a", A), some("b", A), A))
        self.assertEqual(vocabulary_of(concept), (("a",), ("a", "b")))

    def test_parts_of_deep_ones(self):
        found = parts(deep(12))
        self.assertEqual(len(found), 11 + 4)
        self.assertEqual(list(found), sorted(found))
        self.assertTrue(all(deep(many) in found for many in range(1, 13)))
        right = NONE
        for _ in range(11):
            right = both(A, some("r", right))
        self.assertEqual(len(parts(right)), 2 + 22)
        self.assertEqual(size(right), 1 + 22)

    def test_the_example(self):
        self.assertEqual(size(EXAMPLE), 3)
        self.assertEqual(parts(EXAMPLE), (ALL, both(A, ALL), EXAMPLE, A))
        self.assertEqual(vocabulary_of(EXAMPLE), (("a",), ("r",)))
        self.assertIs(is_in(EXAMPLE, (("a",), ())), False)
        self.assertIs(is_concept(("word", "all")), False)


class VocabulariesOfTest(unittest.TestCase):

    def test_of_concepts(self):
        self.assertEqual(vocabulary_of(ALL), ((), ()))
        self.assertEqual(vocabulary_of(NONE), ((), ()))
        self.assertEqual(vocabulary_of(both(C, both(A, C))), (("a", "c"), ()))
        self.assertEqual(vocabulary_of(some("s", some("r", some("s", NONE)))), ((), ("r", "s")))
        self.assertEqual(vocabulary_of(deep(12)), (("a", "b", "c"), ()))

    def test_of_books(self):
        self.assertEqual(vocabulary_of_book(()), ((), ()))
        self.assertEqual(vocabulary_of_book(((ALL, NONE),)), ((), ()))
        self.assertEqual(vocabulary_of_book(((C, some("s", A)), (some("r", A), B))), (("a", "b", "c"), ("r", "s")))
        self.assertEqual(vocabulary_of_book(((A, some("a", ALL)), (A, B))), (("a", "b"), ("a",)))

    def test_in(self):
        concept = both(A, some("r", both(B, some("s", ALL))))
        for names in itertools.chain(*[itertools.combinations("abc", k) for k in range(4)]):
            for roles in itertools.chain(*[itertools.combinations("rst", k) for k in range(4)]):
                wanted = {"a", "b"} <= set(names) and {"r", "s"} <= set(roles)
                self.assertIs(is_in(concept, (names, roles)), wanted)

    def test_in_with_few_words(self):
        self.assertIs(is_in(ALL, ((), ())), True)
        self.assertIs(is_in(NONE, ((), ())), True)
        self.assertIs(is_in(A, ((), ("a",))), False)
        self.assertIs(is_in(some("r", ALL), (("r",), ())), False)
        self.assertIs(is_in(some("a", A), (("a",), ("a",))), True)
        self.assertIs(is_in(deep(12), (("a", "b", "c"), ())), True)
        self.assertIs(is_in(deep(12), (("a", "b"), ())), False)


class WrongArgumentsTest(unittest.TestCase):

    def assert_raises_with(self, error_class, value, function, /, *rest, **more):
        with self.assertRaises(error_class) as caught:
            function(*rest, **more)
        self.assertIs(caught.exception.thing, value)

    def test_no_concept(self):
        for thing in odd_values() + [(), both(A, some("r", ("word", "each"))), ((), ())]:
            for function in (size, parts, vocabulary_of, concepts.concept_text):
                self.assert_raises_with(BadConcept, thing, function, thing)
                self.assert_raises_with(BadConcept, thing, function, concept=thing)
            self.assert_raises_with(BadConcept, thing, is_in, thing, ((), ()))

    def test_no_book(self):
        for thing in odd_values() + [A, ((A, B), (A,))]:
            for function in (vocabulary_of_book, concepts.book_text):
                self.assert_raises_with(BadBook, thing, function, thing)
                self.assert_raises_with(BadBook, thing, function, book=thing)

    def test_no_vocabulary(self):
        for thing in odd_values() + [(), (("b", "a"), ()), A]:
            self.assert_raises_with(BadVocabulary, thing, is_in, A, thing)
            self.assert_raises_with(BadVocabulary, thing, is_in, vocabulary=thing, concept=A)

    def test_the_concept_comes_before_the_vocabulary(self):
        for thing in odd_values():
            for other in odd_values():
                self.assert_raises_with(BadConcept, thing, is_in, thing, other)
                self.assert_raises_with(BadConcept, thing, is_in, vocabulary=other, concept=thing)


class CallsTest(unittest.TestCase):

    def test_parameters_by_name(self):
        self.assertIs(is_word(thing="a"), True)
        self.assertIs(is_concept(thing=A), True)
        self.assertIs(is_book(thing=()), True)
        self.assertIs(is_vocabulary(thing=((), ())), True)
        self.assertEqual(size(concept=A), 1)
        self.assertEqual(parts(concept=A), (A,))
        self.assertEqual(vocabulary_of(concept=A), (("a",), ()))
        self.assertEqual(vocabulary_of_book(book=((A, B),)), (("a", "b"), ()))
        self.assertIs(is_in(concept=A, vocabulary=(("a",), ())), True)

    def test_what_is_passed_stays_and_answers_repeat(self):
        for thing in [[A, [B]], {"a": [1]}, ("and", ["word", "a"], {1: [2]}), ((["a"],), ()), (([A], B),)]:
            before = copy.deepcopy(thing)
            for function in (is_word, is_concept, is_book, is_vocabulary):
                self.assertIs(function(thing), False)
                self.assertIs(function(thing), False)
            self.assertEqual(thing, before)
        for function in (size, parts, vocabulary_of):
            self.assertEqual(function(EXAMPLE), function(copy.deepcopy(EXAMPLE)))

    def test_defined_in_the_file(self):
        names = ("is_word", "is_concept", "is_book", "is_vocabulary", "size", "parts", "vocabulary_of")
        for name in names + ("vocabulary_of_book", "is_in", "concept_text", "book_text", "read_concept", "read_book"):
            self.assertEqual(getattr(concepts, name).__module__, "tellalike.concepts")


if __name__ == "__main__":
    unittest.main()
