"""tellalike.states: kept sets, fitting pairs, states, what they cost, and which are good."""

import copy
import itertools
import random
import time
import unittest

from oracles import Books, all_concepts, concept_of_size, concepts_by_words, made_book
from samples import A, ALL, B, C, NONE, both, odd_values, some, variants
from tellalike import states
from tellalike.concepts import read_book, read_concept
from tellalike.errors import BadBook, BadConcept, BadFiller, BadState, BadVocabulary, NotIn, TooMany
from tellalike.states import are_pairs, fillers, greatest_pairs, is_good, kept_set, rounds, state_of, states_of

D = ("word", "d")
OTHER, WORDS = ((A, some("r", B)),), (("a", "b"), ("r",))
EMPTY = ((), ())
WIDE = (("a", "b"), ("r", "s"))


def is_state_by_words(books, thing):
    """Whether any value is a state in the form of [6.2]."""
    if not isinstance(thing, tuple) or len(thing) != 3 or not all(isinstance(part, tuple) for part in thing):
        return False
    ties = list(itertools.product(books.vocabulary[1], books.fillers[1]))
    for part, known in zip(thing, (list(books.wide[0]), list(books.wide[1]), ties)):
        if not all(item in known for item in part) or tuple(sorted(set(part))) != part:
            return False
    return True


class KeptSetsTest(unittest.TestCase):

    def test_the_example(self):
        self.assertEqual(fillers(OTHER), (B,))
        self.assertEqual(kept_set(OTHER, WORDS, B), (ALL, B))
        self.assertEqual(greatest_pairs((), OTHER, WORDS), ())
        self.assertEqual(state_of((), OTHER, WORDS, A), ((ALL, A), (ALL, some("r", B), A), ()))
        self.assertIs(is_good((), OTHER, WORDS, state_of((), OTHER, WORDS, A)), False)
        self.assertIs(is_good((), OTHER, WORDS, state_of((), OTHER, WORDS, both(A, some("r", B)))), True)
        self.assertEqual(len(states_of((), OTHER, WORDS)), 8)

    def test_fillers(self):
        self.assertEqual(fillers(()), ())
        self.assertEqual(fillers(((A, B),)), ())
        book = read_book("each some r (a and some s none) is some q all\neach (b and some r b) is some r b")
        self.assertEqual(fillers(book), (ALL, both(A, some("s", NONE)), NONE, B))
        self.assertEqual(fillers(book=book), fillers(book))

    def test_kept_sets(self):
        book = read_book("each a is (b and some r a)\neach some r b is c\neach some s c is none")
        wide = (("b", "d"), ("s",))
        self.assertEqual(fillers(book), (A, B, C))
        self.assertEqual(kept_set(book, wide, A), (ALL, both(B, some("r", A)), some("r", A), some("r", B), A, B, C))
        self.assertEqual(kept_set(book, wide, B), (ALL, B))
        self.assertEqual(kept_set(book, wide, C), (ALL, C))
        self.assertEqual(kept_set(filler=B, vocabulary=EMPTY, book=book), (ALL, B))

    def test_names_of_the_vocabulary_count_also_where_the_book_has_none_of_them(self):
        book = ((some("r", NONE), A),)
        everything = (ALL, NONE, some("r", NONE), A, B, D)
        self.assertEqual(kept_set(book, (("b", "d"), ()), NONE), everything)
        self.assertEqual(kept_set(book, (("a",), ("r",)), NONE), everything[:4])
        self.assertEqual(kept_set(book, EMPTY, NONE), everything[:4])

    def test_none_by_the_book(self):
        book = read_book("each (a and b) is none\neach c is some r (b and a)\neach d is some r c")
        for filler in (both(B, A), C):
            self.assertEqual(set(kept_set(book, WORDS, filler)), concepts_by_words(book))

    def test_no_fillers(self):
        book = ((some("r", A), some("s", both(A, B))),)
        for thing in odd_values() + [(), B, ALL, NONE, both(B, A), some("r", A), ["word", "a"], both(A, ["word", "b"]), [A], (A,)]:
            with self.assertRaises(BadFiller) as caught:
                kept_set(book, WORDS, thing)
            self.assertIs(caught.exception.thing, thing)
        self.assertEqual(kept_set(book, WORDS, both(A, B)), (ALL, both(A, B), A, B))
        for thing in (A, ALL, None):
            self.assertRaises(BadFiller, kept_set, (), WORDS, thing)


class PairsTest(unittest.TestCase):

    def pairs(self, one, other, vocabulary):
        """The greatest pairs, as texts, and the rounds."""
        one, other = read_book(one), read_book(other)
        found = greatest_pairs(one, other, vocabulary)
        self.assertIs(are_pairs(one, other, vocabulary, found), True)
        self.assertIs(are_pairs(one, other, vocabulary, ()), True)
        return found, rounds(one, other, vocabulary)

    def test_names(self):
        books = "each x is some r a\neach a is b", "each x is some r b\neach x is some r c"
        self.assertEqual(self.pairs(*books, (("a", "b"), ())), (((B, A), (C, A)), 0))
        self.assertEqual(self.pairs(*books, (("b", "c"), ())), (((B, A),), 0))
        self.assertEqual(self.pairs(*books[::-1], (("b",), ("r",))), (((A, B),), 0))
        self.assertEqual(self.pairs(*books[::-1], (("a",), ("r",))), ((), 0))
        self.assertEqual(self.pairs(*books[::-1], EMPTY), (((A, B), (A, C)), 0))
        self.assertEqual(self.pairs(*books[::-1], (("d", "x"), ("q",))), (((A, B), (A, C)), 0))

    def test_none_on_either_side(self):
        nothing, something = "each x is some r a\neach a is none", "each x is some r b"
        self.assertEqual(self.pairs(nothing, something, (("b",), ("r",))), (((B, A),), 0))
        self.assertEqual(self.pairs(something, nothing, (("b",), ("r",))), ((), 0))
        self.assertEqual(self.pairs(something, nothing, EMPTY), ((), 0))
        self.assertEqual(self.pairs(nothing, nothing, (("a", "b"), ("r",))), (((A, A),), 0))
        self.assertEqual(self.pairs("each some r none is all", nothing, WORDS), (((A, NONE),), 0))

    def test_ties(self):
        one, other = "each x is some r a\neach a is some r a", "each x is some r b\neach b is some r c"
        self.assertEqual(self.pairs(one, other, ((), ("r",))), (((B, A), (C, A)), 0))
        self.assertEqual(self.pairs(other, one, ((), ("r",))), ((), 2))
        self.assertEqual(self.pairs(other, one, ((), ("s",))), (((A, B), (A, C)), 0))
        self.assertEqual(self.pairs(other, one, EMPTY), (((A, B), (A, C)), 0))
        self.assertEqual(self.pairs(one, other, (("c",), ("r",))), (((B, A),)[:0], 1))

    def test_long_rounds(self):
        path = "each x is some r a\neach a is some r b\neach b is some r c\neach c is some r d"
        ring = "each x is some r x"
        self.assertEqual(self.pairs(path, ring, ((), ("r",))), ((), 4))
        self.assertEqual(rounds(read_book(ring), read_book(path), ((), ("r",))), 0)
        self.assertEqual(rounds(read_book(path), read_book(path), ((), ("r",))), 3)
        self.assertEqual(rounds(read_book(path), read_book(ring), (("x",), ("r",))), 0)
        self.assertEqual(rounds((), read_book(path), ((), ("r",))), 0)
        self.assertEqual(rounds(vocabulary=((), ("r",)), other=read_book(ring), one=read_book(path)), 4)

    def test_pairs_that_are_not_the_greatest(self):
        one, other = read_book("each x is some r a\neach a is some r a"), read_book("each b is some r b\neach x is some r c")
        vocabulary = ((), ("r",))
        self.assertEqual(greatest_pairs(one, other, vocabulary), ((B, A), (C, A)))
        for pairs in ((), ((B, A),), ((C, A),), ((B, A), (C, A))):
            self.assertIs(are_pairs(one, other, vocabulary, pairs), True)
            self.assertIs(are_pairs(thing=pairs, vocabulary=vocabulary, other=other, one=one), True)
        chained = read_book("each x is some r b\neach b is some r c")
        for pairs, wanted in (((), True), (((B, A),), False), (((C, A),), True), (((B, A), (C, A)), True)):
            self.assertIs(are_pairs(one, chained, vocabulary, pairs), wanted, pairs)

    def test_other_values(self):
        one, other = read_book("each x is some r a\neach a is some r a"), read_book("each b is some r b\neach x is some r c")
        vocabulary = ((), ("r",))
        wrong = [
            ((C, A), (B, A)), ((B, A), (B, A)), ((A, B),), ((A, A),), ((B, B),), ((B, D),), ((NONE, A),), (B, A), ((B,),), ((B, A, A),),
            ((B, A), ()), [(B, A)], ([B, A],), ((["word", "b"], A),), ((B, A), None), ((B, A), 0), (None,), {(B, A): 1}, ((B, ("word", ["a"])),),
        ]
        for thing in wrong + odd_values():
            self.assertIs(are_pairs(one, other, vocabulary, thing), False, thing)
        books = Books(one, other, vocabulary)
        for thing in variants(((B, A), (C, A))):
            form = isinstance(thing, tuple) and all(isinstance(pair, tuple) and len(pair) == 2 for pair in thing)
            form = form and all(d in books.fillers[1] and e in books.fillers[0] for d, e in thing)
            wanted = form and tuple(sorted(set(thing))) == thing and books.are_fitting(thing)
            self.assertIs(are_pairs(one, other, vocabulary, thing), wanted, thing)

    def test_many_pairs(self):
        source, answers = random.Random(31), set()
        for _ in range(150):
            one, other = made_book(source, 3, 4, names="ab"), made_book(source, 3, 4, names="ab")
            vocabulary = (tuple(w for w in "abc" if source.random() < 0.5), tuple(w for w in "rs" if source.random() < 0.8))
            books = Books(one, other, vocabulary)
            self.assertEqual([list(fillers(one)), list(fillers(other))], books.fillers)
            for filler, wanted in books.kept[0].items():
                self.assertEqual(kept_set(one, vocabulary, filler), wanted)
            self.assertEqual(greatest_pairs(one, other, vocabulary), books.pairs)
            self.assertEqual(rounds(one, other, vocabulary), max(books.rounds.values(), default=0))
            for _ in range(10):
                some_pairs = tuple(pair for pair in books.pairs if source.random() < 0.8)
                wanted = books.are_fitting(some_pairs)
                answers.add(wanted)
                self.assertIs(are_pairs(one, other, vocabulary, some_pairs), wanted)
        self.assertEqual(answers, {True, False})


class StatesTest(unittest.TestCase):

    def test_all_and_names(self):
        one, other = read_book("each all is c\neach a is b"), read_book("each b is (a and d)\neach d is some r a")
        self.assertEqual(state_of(one, other, (("a", "b"), ()), ALL), ((ALL, C), (ALL,), ()))
        self.assertEqual(state_of(one, other, (("a", "b"), ()), A), ((ALL, A, B, C), (ALL, A), ()))
        far = (ALL, both(A, D), some("r", A), A, B, D)
        self.assertEqual(state_of(one, other, (("a", "b"), ()), B), ((ALL, B, C), far, ()))
        self.assertEqual(state_of(one, other, (("x",), ()), ("word", "x")), ((ALL, C, ("word", "x")), (ALL, ("word", "x")), ()))
        self.assertEqual(state_of(concept=ALL, vocabulary=EMPTY, other=(), one=()), ((ALL,), (ALL,), ()))

    def test_joining(self):
        one, other = read_book("each (a and b) is c"), read_book("each (a and c) is d")
        vocabulary = (("a", "b", "c"), ("r",))
        near, far = (ALL, both(A, B), A, B, C), (ALL, A, B)
        self.assertEqual(state_of(one, other, vocabulary, both(A, B)), (near, far, ()))
        self.assertEqual(state_of(one, other, vocabulary, both(A, both(B, C))), (near, (ALL, both(A, C), A, B, C, D), ()))
        source = random.Random(32)
        for _ in range(60):
            one, other = made_book(source, 2, 4, names="ab"), made_book(source, 2, 4, names="ab")
            items = [concept_of_size(source, source.randint(1, 3), odd=0) for _ in range(3)]
            words = (("a", "b", "c"), ("r", "s"))
            wanted = state_of(one, other, words, both(both(*items[:2]), items[2]))
            for first, second, third in itertools.permutations(items):
                self.assertEqual(state_of(one, other, words, both(first, both(both(second, third), first))), wanted)

    def test_lifting(self):
        one, other = read_book("each some r a is b\neach x is some s b"), read_book("each x is some r b\neach some r b is c")
        words = (("a", "b"), ("r", "s"))
        self.assertEqual(state_of(one, other, words, some("r", A)), ((ALL, some("r", A), B), (ALL,), ()))
        self.assertEqual(state_of(one, other, words, some("s", A)), ((ALL,), (ALL,), ()))
        self.assertEqual(state_of(one, other, words, some("r", B)), ((ALL,), (ALL, some("r", B), C), (("r", B),)))
        self.assertEqual(state_of(one, other, words, some("s", B)), ((ALL, some("s", B)), (ALL,), (("s", B),)))
        self.assertEqual(state_of(one, other, words, some("s", some("r", A))), ((ALL, some("s", B)), (ALL,), (("s", B),)))
        self.assertEqual(state_of(one, other, (("b",), ("r",)), some("r", B))[2], (("r", B),))
        self.assertEqual(state_of(one, other, (("a",), ("r",)), some("r", A)), ((ALL, some("r", A), B), (ALL,), (("r", B),)))

    def test_a_role_that_no_book_has(self):
        self.assertEqual(state_of((), OTHER, (("b",), ("q",)), some("q", B)), ((ALL, ), (ALL,), (("q", B),)))
        self.assertEqual(state_of((), OTHER, ((), ("q", "r")), some("q", ALL)), ((ALL, ), (ALL,), (("q", B),)))
        self.assertEqual(state_of((), (), ((), ("q",)), some("q", ALL)), ((ALL, ), (ALL,), ()))

    def test_none_in_a_state(self):
        one = read_book("each (a and b) is none\neach some r c is c")
        other = read_book("each x is some r d\neach x is some s c")
        words = (("a", "b"), ("r",))
        wide, standing = (ALL, both(A, B), NONE, some("r", C), A, B, C), (("r", C), ("r", D))
        self.assertEqual(state_of(one, other, words, both(A, B)), (wide, (ALL, A, B), ()))
        self.assertEqual(state_of(one, other, words, some("r", both(A, B))), (wide, (ALL,), standing))
        self.assertEqual(state_of(other, one, words, some("r", both(A, B)))[:2], ((ALL,), wide))
        self.assertEqual(state_of(other, one, words, both(B, A))[1:], (wide, ()))

    def test_reaching_by_near_by_stand_and_by_none(self):
        # To stand for c, a tie by r to a kept thing of d is needed.
        other = read_book("each x is some r c\neach c is some r d\neach d is b")
        words = (("a", "b"), ("r",))
        ties = (("r", C), ("r", D))
        self.assertEqual(state_of((), other, words, some("r", B))[2], (("r", D),))
        self.assertEqual(state_of((), other, words, some("r", A))[2], ())
        self.assertEqual(state_of((), other, words, some("r", some("r", B)))[2], (("r", C),))
        self.assertEqual(state_of((), other, words, some("r", both(B, some("r", B))))[2], ties)
        near = read_book("each a is some r b")
        self.assertEqual(greatest_pairs(near, other, words), ((D, B),))
        self.assertEqual(state_of(near, other, words, some("r", A))[2], (("r", C),))
        self.assertEqual(state_of(near, other, words, some("r", both(A, B)))[2], ties)
        self.assertEqual(state_of(((A, NONE),), other, words, some("r", A))[2], ties)

    def test_concepts_that_are_not_in_the_vocabulary(self):
        for concept in (C, some("s", A), both(A, some("r", C)), some("r", some("s", ALL)), NONE, both(A, NONE), some("r", both(B, some("r", NONE))),
                        both(C, NONE)):
            for call in (lambda: state_of((), OTHER, WORDS, concept), lambda: state_of(concept=concept, vocabulary=WORDS, other=OTHER, one=())):
                with self.assertRaises(NotIn) as caught:
                    call()
                self.assertIs(caught.exception.thing, concept)
        self.assertRaises(NotIn, state_of, (), (), EMPTY, NONE)
        self.assertEqual(state_of((), (), EMPTY, both(ALL, ALL)), ((ALL,), (ALL,), ()))

    def test_the_states_of_small_books(self):
        self.assertEqual(states_of((), (), EMPTY), ((((ALL,), (ALL,), ()), 1),))
        self.assertEqual(states_of((), (), ((), ("r", "s"))), ((((ALL,), (ALL,), ()), 1),))
        found = states_of((), (), (("a", "b"), ()))
        wanted = [((ALL,), 1), ((ALL, A), 1), ((ALL, A, B), 2), ((ALL, B), 1)]
        self.assertEqual(found, tuple(((known, known, ()), cost) for known, cost in wanted))
        self.assertEqual(states_of(vocabulary=(("a", "b"), ()), other=(), one=()), found)

    def test_costs(self):
        other = read_book("each x is some r (a and b)\neach some r some r a is b")
        costs = dict(states_of((), other, (("a", "b"), ("r",))))
        for text, cost in (("all", 1), ("a", 1), ("(a and b)", 2), ("some r (a and b)", 3), ("some r some r a", 3), ("some r a", 2),
                           ("(a and some r (a and b))", 4), ("some r all", 1), ("(b and some r some r a)", 4), ("((a and a) and all)", 1),
                           ("some r some r (a and b)", 3), ("(some r (b and a) and some r a)", 3),
                           ("(a and some r some r a)", 4)):
            self.assertEqual(costs[state_of((), other, (("a", "b"), ("r",)), read_concept(text))], cost, text)

    def test_the_least_of_several_costs(self):
        words = (("a", "b", "c"), ("r",))
        one, other = read_book("each (b and c) is a\neach a is (b and c)"), read_book("each (b and c) is a\neach a is (b and c)")
        self.assertEqual(dict(states_of(one, other, words))[state_of(one, other, words, both(B, C))], 1)
        self.assertEqual(dict(states_of(one[:1], other[:1], words))[state_of(one[:1], other[:1], words, both(B, C))], 2)
        book = read_book("each some r (a and b) is c\neach c is some r (a and b)")
        self.assertEqual(dict(states_of(book, (), words))[state_of(book, (), words, C)], 1)

    def test_forty_and_more(self):
        for many in range(1, 6):
            self.assertEqual(len(states_of((), (), (tuple("abcdef"[:many]), ()))), 2 ** many)
        self.assert_too_many((), (), (tuple("abcdef"), ()))
        one, other = read_book("each some r a is b"), read_book("each b is none")
        vocabulary = (("a", "b", "c", "d"), ("r", "s"))
        self.assertEqual(len(Books(one, other, vocabulary).reachable(60)), 40)
        self.assertEqual(len(states_of(one, other, vocabulary)), 40)
        one = read_book("each b is a\neach some r (a and b) is some s a")
        other = read_book("each some r b is (b and a)\neach some s b is a")
        self.assertEqual(len(Books(one, other, WIDE).reachable(60)), 41)
        self.assert_too_many(one, other, WIDE)

    def assert_too_many(self, one, other, vocabulary):
        for call in (lambda: states_of(one, other, vocabulary), lambda: states_of(vocabulary=vocabulary, other=other, one=one)):
            with self.assertRaises(TooMany) as caught:
                call()
            self.assertEqual(caught.exception.bound, 40)

    def test_many_books(self):
        source, numbers = random.Random(33), {}
        for _ in range(120):
            one, other = made_book(source, source.randint(0, 3), 3, names="ab"), made_book(source, source.randint(0, 3), 3, names="ab")
            vocabulary = (tuple(w for w in "abc" if source.random() < 0.5), tuple(w for w in "rs" if source.random() < 0.6))
            books = Books(one, other, vocabulary)
            wanted = books.reachable(40)
            if wanted is None:
                self.assert_too_many(one, other, vocabulary)
                continue
            found = states_of(one, other, vocabulary)
            self.assertEqual(found, tuple(sorted(books.costs(wanted).items())))
            self.assertEqual({state for state, _ in found}, wanted)
            for state, cost in found:
                good = books.is_good(state)
                numbers[(good, min(cost, 5))] = numbers.get((good, min(cost, 5)), 0) + 1
                self.assertIs(is_good(one, other, vocabulary, state), good)
            for _ in range(5):
                concept = concept_of_size(source, source.randint(1, 6), "abc", "rs", 0)
                if set("abc") - set(vocabulary[0]) or set("rs") - set(vocabulary[1]):
                    continue
                self.assertEqual(state_of(one, other, vocabulary, concept), books.state_of(concept))
        self.assertTrue(all((good, cost) in numbers for good in (True, False) for cost in (1, 2, 3, 4)), numbers)

    def test_each_small_concept_has_a_reachable_state_that_costs_no_more(self):
        source = random.Random(34)
        for _ in range(6):
            one, other = made_book(source, 2, 3, names="ab", roles="r"), made_book(source, 2, 3, names="ab", roles="r")
            costs = dict(states_of(one, other, (("a",), ("r",))))
            least = {}
            for many in range(1, 6):
                for concept in all_concepts((("a",), ("r",)), many):
                    least.setdefault(state_of(one, other, (("a",), ("r",)), concept), many)
            for state, cost in costs.items():
                self.assertEqual(least.get(state), cost if cost < 6 else None)
            self.assertTrue(set(least) <= set(costs))


class GoodStatesTest(unittest.TestCase):

    def test_names(self):
        words = (("a", "b"), ())
        one, other = ((A, B),), ((A, B), (B, A))
        self.assertIs(is_good(one, other, words, ((ALL, A, B), (ALL, A, B), ())), True)
        self.assertIs(is_good(one, other, words, ((ALL, B), (ALL, A, B), ())), False)
        self.assertIs(is_good(one, other, (("b",), ()), ((ALL, B), (ALL, A, B), ())), True)
        self.assertIs(is_good(state=((), (A,), ()), vocabulary=words, other=other, one=one), False)

    def test_none(self):
        for near, far, wanted in (((), (NONE,), False), ((NONE,), (NONE,), True), ((NONE,), (A, some("r", B)), True), ((A,), (NONE, A), False),
                                  ((NONE,), (), True), ((), (), True)):
            self.assertIs(is_good((), OTHER, WORDS, (near, tuple(sorted(far)), ())), wanted, (near, far))

    def test_ties(self):
        one = read_book("each x is some r (b and c)\neach x is some s b\neach x is some r c")
        strong, weak, aside = some("r", both(B, C)), some("r", C), some("s", B)
        self.assertEqual(greatest_pairs(one, OTHER, WORDS), ((B, both(B, C)), (B, B)))
        far = (ALL, some("r", B))
        for near, stand, wanted in (((), (), False), ((strong,), (), True), ((weak,), (), False), ((aside,), (), False), ((), (("r", B),), True),
                                    ((weak, aside), (), False), ((strong, aside), (("r", B),), True)):
            self.assertIs(is_good(one, OTHER, WORDS, (near, far, stand)), wanted, (near, stand))
            self.assertIs(is_good(one, OTHER, (("b",), ()), (near, far, ())), True)

    def test_states_that_are_not_reachable(self):
        one, other, words = OTHER, ((A, B), (some("r", A), some("s", C))), (("a",), ("r", "s"))
        books = Books(one, other, words)
        source, answers = random.Random(35), {}
        for _ in range(300):
            near, far = (tuple(sorted(c for c in wide if source.random() < 0.4)) for wide in books.wide)
            stand = tuple(tie for tie in itertools.product(("r", "s"), (A, C)) if source.random() < 0.4)
            wanted = books.is_good((near, far, stand))
            answers[wanted] = answers.get(wanted, 0) + 1
            self.assertIs(is_good(one, other, words, (near, far, stand)), wanted)
        self.assertGreater(min(answers[True], answers[False]), 50)

    def test_no_states(self):
        near, far, stand = (ALL, A, B), (ALL, some("r", B), A), (("r", B),)
        self.assertIs(is_good((), OTHER, WORDS, (near, far, stand)), True)
        wrong = [
            [near, far, stand], (near, far), (near, far, stand, ()), (list(near), far, stand), (near, list(far), stand), (near, far, list(stand)),
            ((ALL, B, A), far, stand), ((A, ALL), far, stand), ((ALL, A, A), far, stand), (near, (A, some("r", B)), stand), (near, (ALL, ALL), stand),
            ((ALL, C), far, stand), ((ALL, both(A, B)), far, stand), (near, (ALL, some("s", B)), stand), (far, near, stand), (near, (C,), stand),
            (near, far, (("s", B),)), (near, far, (("r", A),)), (near, far, (("r", B), ("r", B))), (near, far, (("r", B, B),)), (near, far, ("r", B)),
            (near, far, (["r", B],)), (near, far, (("r", ["word", "b"]),)), (near, far, (("r",),)), (near, far, ((B, "r"),)), (near, far, None),
            (None, far, stand), (near, 0, stand), (near, far, stand[0]), ((["all"],), far, stand), ((("all", "all"),), far, stand), (A, far, stand),
            ((ALL, None), far, stand), ((True,), far, stand), (("all",), far, stand), (near, far, True), ((ALL, A, B, ()), far, stand), near, (), A,
        ]
        for thing in wrong + odd_values():
            for call in (lambda: is_good((), OTHER, WORDS, thing), lambda: is_good(state=thing, vocabulary=WORDS, other=OTHER, one=())):
                with self.assertRaises(BadState) as caught:
                    call()
                self.assertIs(caught.exception.thing, thing)

    def test_variants(self):
        one, other, words = OTHER, ((A, B), (some("r", A), some("s", C))), (("a",), ("r", "s"))
        books = Books(one, other, words)
        state = ((ALL, some("r", B), A), (ALL, some("r", A), A, B), (("r", A), ("s", C)))
        answers = set()
        for thing in variants(state):
            if is_state_by_words(books, thing):
                answers.add("state")
                self.assertIs(is_good(one, other, words, thing), books.is_good(thing))
            else:
                answers.add("none")
                with self.assertRaises(BadState) as caught:
                    is_good(one, other, words, thing)
                self.assertIs(caught.exception.thing, thing)
        self.assertEqual(answers, {"state", "none"})


class LimitsTest(unittest.TestCase):

    def test_books_at_the_limits(self):
        source = random.Random(36)
        words = (("a", "b", "c", "d"), ("r", "s"))
        for k in range(40):
            one, other = (made_book(source, 6, 5, names="abcdef", odd=(0.02, 0.1)[k % 2]) for _ in range(2))
            begin = time.perf_counter()
            self.assertIs(are_pairs(one, other, words, greatest_pairs(one, other, words)), True)
            self.assertIn(rounds(one, other, words), range(30))
            for filler in fillers(one):
                kept_set(one, words, filler)
            state = state_of(one, other, words, concept_of_size(source, 12, "abcd", "rs", 0))
            self.assertIn(is_good(one, other, words, state), (True, False))
            for vocabulary in (words, (("a",), ("r",)), (("a", "b"), ())):
                try:
                    self.assertLessEqual(len(states_of(one, other, vocabulary)), 40)
                except TooMany as error:
                    self.assertEqual(error.bound, 40)
            self.assertLess(time.perf_counter() - begin, 1)

    def test_books_with_as_many_ties_as_they_can_have(self):
        def path(letters, end):
            concept = ("word", end)
            for role in letters:
                concept = some(role, concept)
            return concept
        ends = "abcdefghijkl"
        one = tuple((path("rsrs", ends[2 * k]), path("srsr", ends[2 * k + 1])) for k in range(6))
        other = tuple((path("rrss", ends[2 * k]), path("srsr", ends[2 * k + 1])) for k in range(6))
        words = (("a", "b", "c", "d"), ("r", "s"))
        begin = time.perf_counter()
        self.assertEqual((len(fillers(one)), len(fillers(other))), (48, 48))
        pairs = greatest_pairs(one, other, words)
        self.assertIs(are_pairs(one, other, words, pairs), True)
        self.assertIs(are_pairs(other, one, words, pairs[:10]), False)
        rounds(one, other, words)
        self.assertRaises(TooMany, states_of, one, other, words)
        state_of(one, other, words, path("rsrsrsrsrsr", "a"))
        self.assertLess(time.perf_counter() - begin, 1)


class WrongArgumentsTest(unittest.TestCase):

    def assert_raises_with(self, error_class, value, function, /, *rest, **more):
        with self.assertRaises(error_class) as caught:
            function(*rest, **more)
        self.assertIs(caught.exception.thing, value)

    OF_TWO = ((greatest_pairs, {}), (are_pairs, {"thing": [4]}), (state_of, {"concept": [4]}), (rounds, {}), (states_of, {}),
              (is_good, {"state": [4]}))

    def test_the_first_wrong_one(self):
        one, two, three, four = [1], [2], [3], [4]
        self.assert_raises_with(BadBook, one, fillers, one)
        self.assert_raises_with(BadBook, one, kept_set, one, two, three)
        self.assert_raises_with(BadVocabulary, two, kept_set, OTHER, two, three)
        self.assert_raises_with(BadFiller, three, kept_set, OTHER, WORDS, three)
        self.assert_raises_with(BadVocabulary, two, kept_set, filler=three, vocabulary=two, book=OTHER)
        for function, more in self.OF_TWO:
            rest = tuple(more.values())
            self.assert_raises_with(BadBook, one, function, one, two, three, *rest)
            self.assert_raises_with(BadBook, two, function, OTHER, two, three, *rest)
            self.assert_raises_with(BadVocabulary, three, function, OTHER, OTHER, three, *rest)
            self.assert_raises_with(BadBook, one, function, **more, vocabulary=three, other=two, one=one)
            self.assert_raises_with(BadBook, two, function, **more, vocabulary=three, other=two, one=OTHER)
            self.assert_raises_with(BadVocabulary, three, function, **more, vocabulary=three, other=OTHER, one=OTHER)
        self.assert_raises_with(BadConcept, four, state_of, OTHER, OTHER, WORDS, four)
        self.assert_raises_with(BadState, four, is_good, OTHER, OTHER, WORDS, four)

    def test_all_kinds_of_wrong_values(self):
        for thing in odd_values() + [A, (OTHER,), ((A, B), [A, B])]:
            self.assert_raises_with(BadBook, thing, fillers, thing)
            self.assert_raises_with(BadBook, thing, kept_set, thing, WORDS, B)
            for function, more in self.OF_TWO:
                self.assert_raises_with(BadBook, thing, function, thing, OTHER, WORDS, *more.values())
                self.assert_raises_with(BadBook, thing, function, OTHER, thing, WORDS, *more.values())
        for thing in odd_values() + [(), ((), (), ()), (("b", "a"), ()), (("a", "a"), ()), ((), ("all",)), A, [(), ()]]:
            self.assert_raises_with(BadVocabulary, thing, kept_set, OTHER, thing, B)
            for function, more in self.OF_TWO:
                self.assert_raises_with(BadVocabulary, thing, function, OTHER, OTHER, thing, *more.values())
        for thing in odd_values() + [(), both(A, ["all"]), some("all", A), OTHER]:
            self.assert_raises_with(BadConcept, thing, state_of, OTHER, OTHER, WORDS, thing)

    def test_too_many_comes_after_the_parameters(self):
        words = (("a", "b", "c", "d", "e", "f"), ())
        self.assertRaises(TooMany, states_of, (), (), words)
        self.assert_raises_with(BadVocabulary, words[0], states_of, (), (), words[0])
        self.assertEqual(state_of((), (), words, A), ((ALL, A), (ALL, A), ()))
        self.assertIs(is_good((), (), words, ((), (), ())), True)

    def test_what_is_passed_stays_and_answers_repeat(self):
        for thing in ([(B, A)], ([B, A],), ((B, ["word", "a"]),), {"a": [B, A]}):
            before = copy.deepcopy(thing)
            self.assertIs(are_pairs(OTHER, OTHER, WORDS, thing), False)
            self.assertRaises(BadState, is_good, OTHER, OTHER, WORDS, (thing, (), ()))
            self.assertRaises(BadFiller, kept_set, OTHER, WORDS, thing)
            self.assertEqual(thing, before)
        source = random.Random(37)
        for _ in range(20):
            one, other = made_book(source, 2, 3), made_book(source, 2, 3)
            arguments = (one, other, (("a",), ("r",)))
            for function in (greatest_pairs, rounds, states_of):
                self.assertEqual(function(*arguments), function(*copy.deepcopy(arguments)))
            self.assertEqual(state_of(*arguments, some("r", A)), state_of(*copy.deepcopy(arguments), some("r", A)))

    def test_defined_in_the_file(self):
        for name in ("fillers", "kept_set", "greatest_pairs", "are_pairs", "state_of", "rounds", "states_of", "is_good"):
            self.assertEqual(getattr(states, name).__module__, "tellalike.states")


if __name__ == "__main__":
    unittest.main()
