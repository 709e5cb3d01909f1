"""tellalike.telling: what a book tells, types, and the certificates for both answers."""

import copy
import random
import time
import unittest

from oracles import concept_of_size, is_counter_world, made_book, sentences_by_words, told_by_words, type_by_words
from samples import A, ALL, B, C, NONE, both, odd_values, some, variants
from tellalike import telling
from tellalike.concepts import read_book, read_concept
from tellalike.errors import BadBook, BadConcept
from tellalike.lines import lines_hold, sentences_of
from tellalike.telling import does_tell, judge_told, told_holds, type_of
from tellalike.worlds import is_world, judge_model, things_in

D, E = ("word", "d"), ("word", "e")
EXAMPLE = ((A, some("r", B)), (some("r", B), C), (B, some("r", B)))


class TellingTest(unittest.TestCase):

    def assert_judged(self, book, left, right, wanted):
        """The answer is the wanted one, and the certificate is right by all that the document asks of it."""
        self.assertIs(does_tell(book, left, right), wanted, (book, left, right))
        thing = judge_told(book, left, right)
        self.assertIsInstance(thing, tuple)
        if wanted:
            self.assertEqual((len(thing), thing[0]), (2, "told"))
            self.assertEqual(sentences_of(book, thing[1])[-1], (left, right))
            self.assertIs(lines_hold(book, left, right, thing[1]), True)
        else:
            self.assertEqual((len(thing), thing[0]), (3, "world"))
            self.assertIs(is_world(thing[1]), True)
            self.assertEqual(judge_model(thing[1], book), ("model",))
            self.assertIn(thing[2], things_in(thing[1], left))
            self.assertNotIn(thing[2], things_in(thing[1], right))
        self.assertIs(told_holds(book, left, right, thing), True)
        return thing

    def assert_tells(self, book, *cases):
        """Each case is three texts of a left and a right concept, with is or not between them."""
        book = read_book(book)
        for left, word, right in cases:
            self.assert_judged(book, read_concept(left), read_concept(right), word == "is")

    def test_the_example(self):
        self.assertEqual(type_of(EXAMPLE, A), (ALL, some("r", B), A, C))
        self.assertEqual([does_tell(EXAMPLE, B, C), does_tell(EXAMPLE, C, B)], [True, False])
        self.assertEqual([judge_told(EXAMPLE, C, B)[0], judge_told(EXAMPLE, A, C)[0]], ["world", "told"])
        lines = (("axiom", 0), ("axiom", 1), ("chain", 0, 1))
        self.assertIs(told_holds(EXAMPLE, A, C, ("told", lines)), True)
        self.assertIs(told_holds(EXAMPLE, C, B, ("world", (1, (("c", (0,)),), ()), 0)), True)
        for left, right, wanted in ((A, C, True), (B, C, True), (C, B, False), (A, B, False)):
            self.assert_judged(EXAMPLE, left, right, wanted)

    def test_a_book_without_axioms(self):
        self.assert_tells(
            "", ("a", "is", "a"), ("a", "not", "b"), ("a", "is", "all"), ("none", "is", "a"), ("a", "not", "none"), ("all", "not", "a"),
            ("all", "is", "all"), ("none", "is", "none"), ("all", "not", "none"), ("(a and b)", "is", "a"), ("(a and b)", "is", "b"),
            ("(a and b)", "is", "(b and a)"), ("(a and b)", "is", "((b and b) and (all and a))"), ("a", "not", "(a and b)"),
            ("some r none", "is", "none"), ("some r none", "is", "b"), ("some r some s none", "is", "none"), ("some r a", "is", "some r all"),
            ("some r all", "not", "some r a"), ("some r a", "not", "some s a"), ("some r a", "not", "a"), ("all", "not", "some r all"),
            ("some r (a and b)", "is", "(some r a and some r b)"), ("(some r a and some r b)", "not", "some r (a and b)"),
            ("(a and some r none)", "is", "some s none"), ("a", "is", "(all and all)"), ("all", "is", "(all and (all and all))"),
            ("some r (a and some s b)", "is", "some r some s all"), ("some r some s b", "not", "some s some r b"),
        )

    def test_chains_of_axioms(self):
        self.assert_tells(
            "each a is b\neach b is c\neach (c and d) is e\neach some r e is d",
            ("a", "is", "c"), ("c", "not", "a"), ("a", "not", "e"), ("(a and d)", "is", "e"), ("(d and a)", "is", "(e and b)"),
            ("some r (a and d)", "is", "d"), ("(b and some r (d and a))", "is", "e"), ("some r (b and some r e)", "is", "d"),
            ("some r some r e", "not", "e"), ("some s (a and d)", "not", "d"), ("some s (a and d)", "is", "some s e"),
            ("(a and some r (c and some r e))", "is", "e"), ("some r (a and some s e)", "not", "d"),
        )

    def test_what_comes_of_all(self):
        self.assert_tells(
            "each all is (a and some r b)\neach some r (a and b) is c",
            ("all", "is", "c"), ("d", "is", "(c and a)"), ("all", "is", "some r some r some r (b and c)"), ("all", "not", "b"),
            ("some s all", "is", "some s (a and c)"), ("none", "is", "d"), ("all", "not", "none"), ("all", "not", "some s all"),
        )

    def test_kept_things_that_are_tied_to_themselves(self):
        self.assert_tells(
            "each a is some r a\neach some r some r b is c\neach a is b",
            ("a", "is", "c"), ("a", "is", "some r some r some r (a and (b and c))"), ("b", "not", "c"), ("some r b", "not", "c"),
            ("some r a", "is", "c"), ("some r some r b", "is", "c"), ("some s a", "is", "some s c"), ("some s a", "not", "c"),
        )

    def test_none_at_the_root(self):
        self.assert_tells(
            "each (a and b) is none\neach c is some r (a and b)\neach d is (b and some s a)\neach some s b is b",
            ("(a and b)", "is", "none"), ("(b and (c and a))", "is", "e"), ("c", "is", "none"), ("c", "is", "some s e"), ("d", "not", "none"),
            ("(d and a)", "is", "none"), ("some r (d and a)", "is", "none"), ("some s some r c", "is", "none"), ("a", "not", "none"),
            ("some s (a and some s b)", "is", "none"), ("some s (a and some r b)", "not", "none"), ("(c and e)", "is", "(a and none)"),
        )
        self.assert_tells("each all is none", ("all", "is", "none"), ("a", "is", "some r none"), ("all", "is", "all"))
        self.assert_tells("each all is some r none", ("all", "is", "none"), ("a", "is", "b"))
        self.assert_tells("each none is a", ("none", "is", "a"), ("all", "not", "none"), ("b", "not", "a"))

    def test_none_at_a_kept_thing_only(self):
        book = "each some r a is b\neach a is none\neach (c and some s a) is d\neach some r c is some r a"
        self.assert_tells(
            book, ("b", "not", "none"), ("b", "not", "d"), ("a", "is", "none"), ("some s a", "is", "none"), ("c", "not", "none"),
            ("some r c", "is", "none"), ("some r (b and c)", "is", "d"), ("some s c", "not", "none"), ("some r b", "not", "none"),
        )
        world = judge_told(read_book(book), B, D)[1]
        self.assertEqual(world, (1, (("b", (0,)),), ()))

    def test_deep_left_and_right_concepts(self):
        self.assert_tells(
            "each (a and some r b) is c\neach some s c is e",
            ("some s ((b and a) and some r (b and a))", "is", "e"), ("some s (b and some r (b and a))", "not", "e"),
            ("some r some s (a and (b and some r (some r a and (b and d))))", "is", "some r (e and some s (c and some r (d and some r all)))"),
            ("some r some s (a and (b and some r (some r a and d)))", "not", "some r e"),
            ("((a and (a and some r (b and c))) and some s none)", "is", "d"), ("none", "is", "some r (a and none)"),
            ("some s none", "is", "(some r b and none)"), ("(some s a and some s some r b)", "not", "e"),
        )

    def test_words_that_the_book_does_not_have(self):
        self.assert_tells(
            "each a is b", ("x", "is", "x"), ("x", "not", "y"), ("(x and a)", "is", "(b and x)"), ("some q x", "is", "some q (x and all)"),
            ("some q x", "not", "x"), ("some q (x and a)", "is", "some q (b and x)"), ("a", "not", "some q all"), ("a", "not", "x"),
        )
        world = judge_told(((A, B),), both(A, some("q", ("word", "x"))), ("word", "y"))[1]
        self.assertEqual(world, (2, (("a", (0,)), ("b", (0,)), ("x", (1,))), (("q", ((0, 1),)),)))

    def test_many_questions(self):
        source, told = random.Random(11), 0
        for _ in range(500):
            book = made_book(source, source.randint(0, 4), 4)
            left, right = concept_of_size(source, source.randint(1, 7)), concept_of_size(source, source.randint(1, 5))
            wanted = told_by_words(book, left, right)
            told += wanted
            thing = self.assert_judged(book, left, right, wanted)
            if wanted:
                self.assertEqual(sentences_by_words(book, thing[1])[-1], (left, right))
            else:
                self.assertTrue(is_counter_world(book, left, right, thing[1], thing[2]))
        self.assertGreater(told, 60)

    def test_the_order_of_axioms_and_doubled_ones(self):
        source = random.Random(12)
        for _ in range(100):
            book = made_book(source, 4, 4)
            left, right = concept_of_size(source, 5), concept_of_size(source, 2)
            other = list(book) + [source.choice(book)]
            source.shuffle(other)
            self.assertIs(does_tell(tuple(other), left, right), does_tell(book, left, right))
            self.assertEqual(type_of(tuple(other), left), type_of(book, left))
            self.assert_judged(tuple(other), left, right, does_tell(book, left, right))

    def test_words_called_otherwise(self):
        new = {"a": "zed", "b": "y", "c": "a", "r": "s", "s": "word"}

        def renamed(concept):
            if concept[0] == "word":
                return ("word", new[concept[1]])
            if concept[0] == "some":
                return some(new[concept[1]], renamed(concept[2]))
            return both(renamed(concept[1]), renamed(concept[2])) if concept[0] == "and" else concept

        source = random.Random(13)
        for _ in range(100):
            book = made_book(source, 3, 4)
            left, right = concept_of_size(source, 5), concept_of_size(source, 3)
            other = tuple((renamed(c), renamed(d)) for c, d in book)
            self.assert_judged(other, renamed(left), renamed(right), does_tell(book, left, right))
            self.assertEqual(type_of(other, renamed(left)), tuple(sorted(map(renamed, type_of(book, left)))))


class TypesTest(unittest.TestCase):

    def test_small_ones(self):
        book = read_book("each a is (b and c)\neach some r c is none")
        self.assertEqual(type_of(book, A), (ALL, both(B, C), A, B, C))
        self.assertEqual(type_of(book, both(C, B)), (ALL, both(B, C), B, C))
        self.assertEqual(type_of(book, C), (ALL, C))
        self.assertEqual(type_of(book, ALL), (ALL,))
        self.assertEqual(type_of(book, D), (ALL,))
        self.assertEqual(type_of(book, some("r", B)), (ALL,))
        self.assertEqual(type_of((), A), (ALL,))
        self.assertEqual(type_of(concept=B, book=()), (ALL,))

    def test_all_concepts_of_the_book_come_with_none(self):
        book = read_book("each a is (b and c)\neach some r c is none")
        everything = (ALL, both(B, C), NONE, some("r", C), A, B, C)
        for concept in (NONE, some("r", A), some("r", C), both(D, some("s", some("r", A))), some("s", NONE)):
            self.assertEqual(type_of(book, concept), everything)
        self.assertEqual(type_of((), NONE), (ALL, NONE))

    def test_only_concepts_of_the_book(self):
        self.assertEqual(type_of(((A, B),), both(A, some("r", C))), (ALL, A, B))
        self.assertEqual(type_of(((some("r", A), B),), some("r", both(A, C))), (ALL, some("r", A), B))
        self.assertEqual(type_of(((some("r", both(A, C)), B),), some("r", A)), (ALL,))

    def test_many_types(self):
        source = random.Random(14)
        for _ in range(300):
            book = made_book(source, source.randint(0, 4), 4)
            concept = concept_of_size(source, source.randint(1, 8))
            found = type_of(book, concept)
            self.assertIsInstance(found, tuple)
            self.assertEqual(found, type_by_words(book, concept))

    def test_the_type_of_all_that_is_in_a_type(self):
        source = random.Random(15)
        for _ in range(100):
            book = made_book(source, 4, 4)
            concept = concept_of_size(source, 4)
            found = type_of(book, concept)
            joined = found[0]
            for item in found[1:]:
                joined = both(joined, item)
            self.assertEqual(type_of(book, joined), found)
            self.assertIs(does_tell(book, concept, joined), True)


class CertificatesTest(unittest.TestCase):

    def test_other_lines(self):
        lines = judge_told(EXAMPLE, A, C)[1]
        self.assertIs(told_holds(EXAMPLE, A, C, ("told", (("same", B),) * 3 + (("axiom", 0), ("axiom", 1), ("chain", 3, 4)))), True)
        self.assertIs(told_holds(EXAMPLE, A, C, ("told", lines + (("same", A),))), False)
        self.assertIs(told_holds(EXAMPLE, A, C, ("told", lines + (("same", A), ("chain", len(lines), len(lines) - 1)))), True)
        self.assertIs(told_holds(EXAMPLE, A, C, ("told", ())), False)
        self.assertIs(told_holds(EXAMPLE, A, B, ("told", lines)), False)
        self.assertIs(told_holds(EXAMPLE, C, C, ("told", lines)), False)
        self.assertIs(told_holds(EXAMPLE[1:], A, C, ("told", lines)), False)

    def test_other_worlds(self):
        big = (5, (("a", (4,)), ("b", (2,)), ("c", (1, 2, 3, 4)), ("e", (0, 1))), (("r", ((2, 2), (4, 2))), ("s", ((1, 0), (3, 4)))))
        for x, wanted in ((0, False), (1, True), (2, False), (3, True), (4, True), (5, False), (-1, False), (True, False), (None, False)):
            self.assertIs(told_holds(EXAMPLE, C, B, ("world", big, x)), wanted, x)
        for x in (1, 2, 3):
            self.assertIs(told_holds(EXAMPLE, C, B, ("world", big, [x])), False)
        no_model = (5, big[1], (("r", ((2, 2),)), ("s", ((1, 0), (3, 4)))))
        self.assertIs(told_holds(EXAMPLE, C, B, ("world", no_model, 1)), False)
        self.assertIs(told_holds(EXAMPLE[1:], C, B, ("world", no_model, 1)), True)
        most = (2000, (("c", tuple(range(2000))),), ())
        self.assertIs(told_holds(EXAMPLE, C, B, ("world", most, 1999)), True)
        self.assertIs(told_holds(EXAMPLE, C, B, ("world", (2001, most[1], ()), 1999)), False)

    def test_true_is_not_the_thing_one(self):
        world = (2, (("c", (0, 1)),), ())
        self.assertIs(told_holds(EXAMPLE, C, B, ("world", world, 1)), True)
        self.assertIs(told_holds(EXAMPLE, C, B, ("world", world, True)), False)
        self.assertIs(told_holds(EXAMPLE, C, B, ("world", world, False)), False)
        self.assertIs(told_holds(EXAMPLE, C, B, ("world", (True, (("c", (0,)),), ()), 0)), False)

    def test_a_certificate_of_the_other_kind(self):
        told, world = judge_told(EXAMPLE, A, C), judge_told(EXAMPLE, C, B)
        self.assertIs(told_holds(EXAMPLE, C, B, told), False)
        self.assertIs(told_holds(EXAMPLE, A, C, world), False)
        self.assertIs(told_holds(EXAMPLE, C, B, ("told",) + world[1:]), False)
        self.assertIs(told_holds(EXAMPLE, A, C, ("world",) + told[1:]), False)
        self.assertIs(told_holds(EXAMPLE, A, C, told + (0,)), False)
        self.assertIs(told_holds(EXAMPLE, C, B, world[:2]), False)
        self.assertIs(told_holds(EXAMPLE, C, B, world + (0,)), False)
        self.assertIs(told_holds(EXAMPLE, C, B, list(world)), False)

    def test_no_certificates(self):
        for thing in odd_values() + [(), ("told",), ("world",), ("told", ("same",)), ("world", (1, (), ()), 0), ("model",), ("axiom", 0, 0)]:
            self.assertIs(told_holds(EXAMPLE, A, C, thing), False, thing)
            self.assertIs(told_holds(EXAMPLE, C, B, thing), False, thing)
            for more in (("told", thing), ("world", thing, 0), (thing, ()), ("told", (thing,)), (thing, (1, (), ()), 0)):
                self.assertIs(told_holds(EXAMPLE, C, B, more), False, more)
            wanted = type(thing) is int and thing == 0
            self.assertIs(told_holds(EXAMPLE, C, B, ("world", (1, (("c", (0,)),), ()), thing)), wanted, thing)

    def test_variants_of_worlds(self):
        book = read_book("each a is some r b\neach b is a\neach some r (a and b) is c")
        left, right = read_concept("(a and some s a)"), read_concept("(c and some s b)")
        thing = judge_told(book, left, right)
        held = 0
        for other in variants(thing):
            wanted = isinstance(other, tuple) and len(other) == 3 and other[0] == "world" and is_world(other[1])
            wanted = wanted and type(other[2]) is int and 0 <= other[2] < other[1][0]
            wanted = bool(wanted) and is_counter_world(book, left, right, other[1], other[2])
            held += wanted
            self.assertIs(told_holds(book, left, right, other), wanted, other)
        self.assertGreater(held, 2)

    def test_variants_of_lines(self):
        book = read_book("each a is some r b\neach b is (a and c)\neach some r (a and b) is d")
        thing = judge_told(book, A, D)
        self.assertIs(told_holds(book, A, D, thing), True)
        for other in variants(thing):
            if not isinstance(other, tuple) or len(other) != 2 or other[0] != "told":
                self.assertIs(told_holds(book, A, D, other), False, other)
            else:
                self.assertIs(told_holds(book, A, D, other), lines_hold(book, A, D, other[1]), other)


class LimitsTest(unittest.TestCase):

    def test_questions_at_the_limits(self):
        source = random.Random(16)
        for _ in range(40):
            book = made_book(source, 6, 5, names="abcdef")
            left, right = concept_of_size(source, 12, "abcdef"), concept_of_size(source, 12, "abcdef")
            begin = time.perf_counter()
            self.assertIs(told_holds(book, left, right, judge_told(book, left, right)), True)
            self.assertIs(told_holds(book, left, ALL, judge_told(book, left, ALL)), True)
            type_of(book, left)
            self.assertLess(time.perf_counter() - begin, 0.5)

    def test_concepts_that_this_package_returned(self):
        lines = [("same", A)] + [("both", k, k) for k in range(13)]
        big = sentences_of((), tuple(lines))[-1][1]
        deep = sentences_of((), (("same", A),) + tuple(("lift", "r", k) for k in range(199)))[-1][1]
        begin = time.perf_counter()
        for left, right, wanted in ((A, big, True), (B, big, False), (big, A, True), (big, B, False), (big, big, True), (big, deep, False),
                                    (deep, big, False), (deep, deep, True), (NONE, big, True), (deep, NONE, False), (deep, deep[2], False)):
            self.assertIs(does_tell((), left, right), wanted)
            self.assertIs(told_holds((), left, right, judge_told((), left, right)), True)
        self.assertLess(time.perf_counter() - begin, 3)
        self.assertIs(does_tell(((A, some("r", A)),), deep, some("r", deep)), True)
        self.assertIs(does_tell(((B, some("r", B)),), deep, some("r", deep)), False)


class WrongArgumentsTest(unittest.TestCase):

    def assert_raises_with(self, error_class, value, function, /, *rest, **more):
        with self.assertRaises(error_class) as caught:
            function(*rest, **more)
        self.assertIs(caught.exception.thing, value)

    def test_the_first_wrong_one(self):
        one, two, three, four = [1], [2], [3], [4]
        self.assert_raises_with(BadBook, one, type_of, one, two)
        self.assert_raises_with(BadConcept, two, type_of, EXAMPLE, two)
        self.assert_raises_with(BadConcept, two, type_of, concept=two, book=EXAMPLE)
        for function, rest in ((does_tell, ()), (judge_told, ()), (told_holds, (four,))):
            self.assert_raises_with(BadBook, one, function, one, two, three, *rest)
            self.assert_raises_with(BadConcept, two, function, EXAMPLE, two, three, *rest)
            self.assert_raises_with(BadConcept, three, function, EXAMPLE, A, three, *rest)
        self.assert_raises_with(BadBook, one, does_tell, right=three, left=two, book=one)
        self.assert_raises_with(BadConcept, two, judge_told, right=three, left=two, book=EXAMPLE)
        self.assert_raises_with(BadConcept, three, told_holds, thing=four, right=three, left=A, book=EXAMPLE)

    def test_all_kinds_of_wrong_values(self):
        for thing in odd_values() + [A, (EXAMPLE,), ((A, B), [A, B])]:
            self.assert_raises_with(BadBook, thing, type_of, thing, A)
            for function, rest in ((does_tell, ()), (judge_told, ()), (told_holds, (("told", ()),))):
                self.assert_raises_with(BadBook, thing, function, thing, A, B, *rest)
        for thing in odd_values() + [(), EXAMPLE, both(A, ["all"]), some("all", A)]:
            self.assert_raises_with(BadConcept, thing, type_of, EXAMPLE, thing)
            for function, rest in ((does_tell, ()), (judge_told, ()), (told_holds, (("told", ()),))):
                self.assert_raises_with(BadConcept, thing, function, EXAMPLE, thing, A, *rest)
                self.assert_raises_with(BadConcept, thing, function, EXAMPLE, A, thing, *rest)

    def test_by_name(self):
        self.assertIs(does_tell(right=C, left=A, book=EXAMPLE), True)
        self.assertEqual(judge_told(right=C, left=A, book=EXAMPLE), judge_told(EXAMPLE, A, C))
        self.assertIs(told_holds(thing=judge_told(EXAMPLE, A, C), right=C, left=A, book=EXAMPLE), True)

    def test_what_is_passed_stays_and_answers_repeat(self):
        for thing in (["told", [("same", A)]], ("told", [["same", A]]), ("world", [1, [], []], [0]), ("world", (1, {}, []), 0)):
            before = copy.deepcopy(thing)
            self.assertIs(told_holds(EXAMPLE, A, C, thing), False)
            self.assertEqual(thing, before)
        for left, right in ((A, C), (C, B)):
            self.assertEqual(judge_told(EXAMPLE, left, right), judge_told(copy.deepcopy(EXAMPLE), left, right))
        self.assertEqual(type_of(EXAMPLE, A), type_of(copy.deepcopy(EXAMPLE), A))

    def test_defined_in_the_file(self):
        for name in ("type_of", "does_tell", "judge_told", "told_holds"):
            self.assertEqual(getattr(telling, name).__module__, "tellalike.telling")


if __name__ == "__main__":
    unittest.main()
