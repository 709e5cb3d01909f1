"""tellalike.covering: books that cover others, and the certificates that show it."""

import copy
import itertools
import random
import time
import unittest

from certificates import (
    does_part, faults_of_cover, faults_of_sentence, faults_of_table, is_state_by_words, least_world_by_words,
)
from oracles import Books, all_concepts, concept_of_size, made_book, told_by_words
from samples import A, ALL, B, C, NONE, both, odd_values, some, variants
from tellalike import covering
from tellalike.concepts import concept_text, read_book, read_concept, size
from tellalike.covering import are_alike, cover_holds, does_cover, judge_cover
from tellalike.errors import TooMany
from tellalike.looks import weaker
from tellalike.states import greatest_pairs, is_good, rounds, states_of
from tellalike.telling import does_tell

OTHER = ((A, some("r", B)), (some("r", B), C))
EMPTY = ((), ())
VOCABULARIES = (
    (("a",), ("r",)), (("a", "b"), ("r",)), (("a", "b"), ()), ((), ("r", "s")), (("a",), ("r", "s")), (("a", "b", "c"), ()), EMPTY, (("r",), ("r",)),
)


def books_beside(source):
    """Two books, often with much in common."""
    many, odd = source.randint(1, 4), source.choice([0, 0.1])
    one, other = (made_book(source, many, source.randint(1, 4), odd=odd) for _ in range(2))
    if source.random() < 0.6:
        left_out = source.randrange(many)
        one = other[:left_out] + other[left_out + 1:]
    return (one, other) if source.random() < 0.7 else (other, one)


def is_cover(one, other, vocabulary, thing, smaller):
    """Whether any value is a certificate of [7.2], slowly."""
    if not isinstance(thing, tuple) or (len(thing), thing[0] if thing else None) not in ((3, "covered"), (6, "sentence")):
        return False
    return not faults_of_cover(one, other, vocabulary, thing, smaller)


class CoverTest(unittest.TestCase):

    def judged(self, one, other, vocabulary):
        """The certificate, which is looked at clause by clause, and all that the other functions say."""
        found = judge_cover(one, other, vocabulary)
        smaller = [concept for many in range(1, 4) for concept in all_concepts(vocabulary, many)]
        self.assertEqual(faults_of_cover(one, other, vocabulary, found, smaller), [], (one, other, vocabulary, found))
        self.assertIs(cover_holds(one, other, vocabulary, found), True)
        self.assertIs(does_cover(one, other, vocabulary), found[0] == "covered")
        try:
            alike = does_cover(other, one, vocabulary) and found[0] == "covered"
        except TooMany:
            self.assertRaises(TooMany, are_alike, one, other, vocabulary)
            return found
        self.assertIs(are_alike(one, other, vocabulary), alike)
        self.assertIs(are_alike(other, one, vocabulary), alike)
        return found

    def parted(self, one, other, vocabulary):
        """The texts of the two sides of the sentence that parts two books, given as texts; None if one covers other."""
        found = self.judged(read_book(one), read_book(other), vocabulary)
        return None if found[0] == "covered" else tuple(map(concept_text, found[1:3]))

    def test_the_example(self):
        self.assertEqual(judge_cover((), OTHER, (("a", "b"), ("r",)))[:3], ("sentence", A, some("r", ALL)))
        self.assertEqual(judge_cover((), OTHER, (("a", "c"), ()))[:3], ("sentence", A, C))
        self.assertIs(does_cover((), OTHER, (("b", "c"), ())), True)
        self.assertIs(does_cover(OTHER, (), (("a", "b", "c"), ("r",))), True)
        self.assertIs(are_alike(OTHER, ((A, C),), (("a", "c"), ())), True)
        self.assertIs(are_alike(OTHER, ((A, C),), (("a", "c"), ("r",))), False)
        self.assertIs(cover_holds((), (), EMPTY, ("covered", (), (((ALL,), (ALL,), ()),))), True)

    def test_a_book_beside_the_like_of_it(self):
        book = "each a is some r (b and c)\neach some r b is d\neach (c and d) is none"
        one, two, three = book.split("\n")
        for words in ((("a", "b", "c", "d"), ("r",)), (("a", "d"), ("r",)), (("a", "b", "c", "d"), ()), EMPTY):
            for like in (book, "\n".join([three, one, two]), "\n".join([book, two, book]), book + "\neach a is d",
                         book + "\neach (c and a) is some s none", book + "\neach some r c is all"):
                self.assertIs(self.parted(book, like, words), None)
                self.assertIs(self.parted(like, book, words), None)

    def test_a_book_beside_less(self):
        book = "each a is some r (b and c)\neach some r b is d"
        for less, words, wanted in (
            ("each a is some r (b and c)", (("a", "d"), ()), ("a", "d")),
            ("each some r b is d", (("a", "c"), ("r",)), ("a", "some r all")),
            ("each some r b is d\neach a is some r all", (("a", "c"), ("r",)), ("a", "some r c")),
            ("each a is some r b\neach some r b is d", (("a", "c"), ("r",)), ("a", "some r c")),
            ("each a is (d and some r (b and c))", (("b", "d"), ("r",)), ("some r b", "d")),
            ("each a is (d and some r (b and c))", (("a", "d"), ("r",)), None),
            ("", (("a", "d"), ()), ("a", "d")),
        ):
            self.assertEqual(self.parted(less, book, words), wanted, less)
            self.assertIs(self.parted(book, less, words), None)

    def test_through_names_outside_of_the_vocabulary(self):
        direct, through = "each a is b", "each a is c\neach c is b"
        self.assertIs(self.parted(direct, through, (("a", "b"), ("r",))), None)
        self.assertIs(self.parted(through, direct, (("a", "b"), ("r",))), None)
        self.assertEqual(self.parted(direct, through, (("a", "b", "c"), ())), ("a", "c"))
        self.assertEqual(self.parted("each a is some r b", "each a is some r c\neach c is b", (("a", "b"), ("r",))), None)
        self.assertEqual(self.parted("", "each a is some s c\neach some s c is some r all", (("a",), ("r",))), ("a", "some r all"))
        self.assertIs(self.parted("", "each a is some s c\neach some s c is some r all", (("a",), ("s",)))[1] == "some s all", True)
        self.assertIs(self.parted("", "each x is y\neach y is some r x", (("a",), ("r",))), None)

    def test_two_things_in_one(self):
        """What one has beside each other, other has in one thing, and the other way round."""
        apart, together = "each a is (some r b and some r c)", "each a is some r (b and c)"
        words = (("a", "b", "c"), ("r",))
        self.assertIs(self.parted(together, apart, words), None)
        self.assertIn(self.parted(apart, together, words), (("a", "some r (b and c)"), ("a", "some r (c and b)")))
        self.assertIs(self.parted(apart, together, (("a", "b"), ("r",))), None)

    def test_greater_left_sides(self):
        for left, words in (("(a and b)", (("a", "b"), ("r",))), ("some r a", (("a",), ("r",))), ("some r (a and b)", (("a", "b"), ("r",))),
                            ("some r some r a", (("a",), ("r",))), ("(some r a and some s a)", (("a",), ("r", "s"))),
                            ("some r some r some r all", ((), ("r",))), ("(a and some r (a and b))", (("a", "b"), ("r",))),
                            ("((a and b) and (c and d))", (("a", "b", "c", "d"), ())), ("some r (a and some s a)", (("a",), ("r", "s")))):
            found = self.parted("", f"each {left} is none", words)
            self.assertEqual(size(read_concept(found[0])), size(read_concept(left)))
            self.assertEqual(found[1], "none")

    def test_greater_right_sides(self):
        for right, words in (("some r (b and some r b)", (("a", "b"), ("r",))), ("some r (some s all and some r all)", (("a",), ("r", "s"))),
                             ("some s some s b", (("a", "b"), ("s",))), ("some r some r a", (("a",), ("r",)))):
            less = "\n".join(f"each a is {concept_text(step)}" for step in weaker(read_concept(right)))
            found = self.parted(less, f"each a is {right}", words)
            self.assertEqual((found[0], size(read_concept(found[1]))), ("a", size(read_concept(right))))
            self.assertIs(does_cover(read_book(f"each a is {right}"), read_book(less), (("a", "b"), ())), True)

    def test_none_at_a_root(self):
        words = (("a", "b"), ("r",))
        self.assertIn(self.parted("", "each (a and b) is none", words), (("(a and b)", "none"), ("(b and a)", "none")))
        self.assertIs(self.parted("each (a and b) is none", "", words), None)
        self.assertIs(self.parted("each (a and b) is none", "each (b and a) is none", words), None)
        self.assertIs(self.parted("each a is none", "each a is some r b\neach (a and b) is none", words), None)
        self.assertEqual(self.parted("each a is some r b", "each a is none", words), ("a", "none"))
        self.assertEqual(self.parted("", "each some r a is none", words), ("some r a", "none"))
        self.assertIs(self.parted("each a is none", "each some r a is none", words), None)
        self.assertEqual(self.parted("each some r a is none", "each a is none", words), ("a", "none"))
        self.assertEqual(self.parted("", "each all is none", EMPTY), ("all", "none"))
        self.assertIs(self.parted("each all is none", "each all is none", words), None)
        self.assertEqual(self.parted("each all is a", "each a is none", words)[1], "none")
        self.assertEqual(self.parted("", "each a is some s none", (("a",), ("r",))), ("a", "none"))

    def test_vocabularies_without_words(self):
        self.assertIs(self.parted("", "each a is b", EMPTY), None)
        self.assertIs(self.parted("", "each all is a", EMPTY), None)
        self.assertIs(self.parted("", "each all is some r all", EMPTY), None)
        self.assertEqual(self.parted("", "each all is some r all", ((), ("r",))), ("all", "some r all"))
        self.assertEqual(self.parted("", "each all is a", (("a",), ())), ("all", "a"))
        self.assertEqual(self.parted("", "each some r all is some s all", ((), ("r", "s"))), ("some r all", "some s all"))
        self.assertIs(self.parted("", "each some r all is some s all", ((), ("s",))), None)
        self.assertEqual(self.parted("", "each all is some r a\neach some r all is b", (("b",), ())), ("all", "b"))

    def test_words_of_no_book(self):
        words = (("a", "x"), ("q", "r"))
        self.assertIs(self.parted("", "", words), None)
        self.assertEqual(self.parted("", "each a is some r all", words), ("a", "some r all"))
        self.assertIs(self.parted("", "each b is some s all", words), None)
        self.assertEqual(self.parted("", "each all is a", (("x",), ("q",))), None)

    def test_one_word_as_a_name_and_as_a_role(self):
        words = (("r",), ("r",))
        self.assertEqual(self.parted("", "each r is some r r", words), ("r", "some r all"))
        self.assertEqual(self.parted("each r is some r all", "each r is some r r", words), ("r", "some r r"))
        self.assertEqual(self.parted("", "each some r all is r", words), ("some r all", "r"))
        self.assertIs(self.parted("each r is some r all", "each r is some r r", ((), ("r",))), None)
        self.assertIs(self.parted("", "each some r all is r", (("r",), ())), None)

    def test_many_books(self):
        source, kinds = random.Random(51), {}
        for _ in range(600):
            one, other = books_beside(source)
            vocabulary = source.choice(VOCABULARIES)
            try:
                found = self.judged(one, other, vocabulary)
            except TooMany:
                continue
            key = (found[0], size(found[1]) if found[0] == "sentence" else len(found[2]) > 4)
            kinds[key] = kinds.get(key, 0) + 1
        for key in (("covered", True), ("covered", False), ("sentence", 1), ("sentence", 2)):
            self.assertGreater(kinds[key], 5, kinds)

    def test_what_covering_says_of_drawn_sentences(self):
        source, told, covered = random.Random(52), 0, 0
        for _ in range(250):
            one, other = books_beside(source)
            words = (("a", "b"), ("r",))
            if "".join(sorted(map(str, (one, other)))).count("none") > 6:
                continue
            try:
                found = judge_cover(one, other, words)
            except TooMany:
                continue
            for _ in range(20):
                left, right = concept_of_size(source, source.randint(1, 4), "ab", "r"), concept_of_size(source, source.randint(1, 4), "ab", "r")
                if does_tell(other, left, right) and not does_tell(one, left, right):
                    self.assertEqual(found[0], "sentence")
                    self.assertLessEqual(size(found[1]), size(left))
                    told += 1
                covered += found[0] == "covered"
        self.assertGreater(told, 20)
        self.assertGreater(covered, 500)

    def test_the_table_has_the_reachable_states(self):
        one, words = read_book("each a is some r a"), (("a",), ("r",))
        found = judge_cover(one, one, words)
        self.assertEqual(found[1], greatest_pairs(one, one, words))
        self.assertEqual(found[2], tuple(state for state, _ in states_of(one, one, words)))


class TablesOfOthersTest(unittest.TestCase):

    RING = read_book("each x is some r a\neach a is some r a"), read_book("each b is some r b\neach x is some r c")

    def closed(self, books, states):
        """The least states that contain these and are closed, None if they are more than 60."""
        found = set(states) | {books.state_of(ALL)}
        named = [books.state_of(name) for name in books.names]
        while True:
            lifted = {books.lifted(state, role) for state in found for role in books.vocabulary[1]}
            grown = found | {books.joined(state, more) for state in found for more in lifted | set(named)}
            if len(grown) > 60:
                return None
            if grown == found:
                return tuple(sorted(found))
            found = grown

    def assert_as_by_words(self, one, other, vocabulary, thing):
        wanted = is_cover(one, other, vocabulary, thing, ())
        self.assertIs(cover_holds(one, other, vocabulary, thing), wanted, (one, other, vocabulary, thing))
        return wanted

    def test_pairs_that_are_not_the_greatest(self):
        one, other = self.RING
        for vocabulary, wanted in ((((), ("r",)), [True] * 4), ((("x",), ("r",)), [False, False, True, True])):
            answers = []
            for pairs in ((), ((B, A),), ((C, A),), ((B, A), (C, A))):
                books = Books(one, other, vocabulary)
                books.pairs = pairs
                thing = ("covered", pairs, self.closed(books, ()))
                answers.append(self.assert_as_by_words(one, other, vocabulary, thing))
            self.assertEqual(answers, wanted)

    def test_states_for_other_pairs(self):
        """The states that stand for a filler by the greatest pairs do not for others, so the tables are not exchanged."""
        one, other = read_book("each x is some r a\neach a is some r a"), read_book("each y is some r c\neach c is some r d")
        vocabulary = (("a",), ("r",))
        self.assertEqual(greatest_pairs(one, other, vocabulary), ((C, A), (("word", "d"), A)))
        tables = {}
        for pairs in ((), greatest_pairs(one, other, vocabulary)):
            books = Books(one, other, vocabulary)
            books.pairs = pairs
            tables[pairs] = self.closed(books, ())
        self.assertEqual(len(set(tables.values())), 2)
        answers = []
        for pairs, other_pairs in itertools.product(tables, repeat=2):
            wanted = self.assert_as_by_words(one, other, vocabulary, ("covered", pairs, tables[other_pairs]))
            answers.append((pairs == other_pairs, wanted))
        self.assertNotIn((True, False), answers)
        self.assertIn((False, False), answers)

    def test_pairs_that_do_not_fit(self):
        one, other = self.RING
        other = other + read_book("each c is some r d")
        states = judge_cover(one, other, ((), ("r",)))[2]
        for pairs in (((C, A),), ((A, A),), ((C, A), (B, A)), ((B, A), (B, A)), [(B, A)], (B, A), None, ((B, A, A),), ((B, ["word", "a"]),)):
            self.assertIs(cover_holds(one, other, ((), ("r",)), ("covered", pairs, states)), False)

    def test_more_states_and_fewer(self):
        source, answers = random.Random(53), {}
        for _ in range(60):
            one, other = books_beside(source)
            vocabulary = source.choice(((("a",), ("r",)), (("a", "b"), ()), ((), ("r",)), (("a",), ("r", "s"))))
            books = Books(one, other, vocabulary)
            if max(books.rounds.values(), default=0) > 3 or books.reachable(25) is None:
                continue
            found = judge_cover(one, other, vocabulary)
            if found[0] != "covered":
                continue
            for _ in range(4):
                near, far = (tuple(sorted(c for c in wide if source.random() < 0.5)) for wide in books.wide)
                stand = tuple(tie for tie in itertools.product(vocabulary[1], books.fillers[1]) if source.random() < 0.5)
                more = self.closed(books, found[2] + ((near, far, stand),))
                if more is None:
                    continue
                wanted = self.assert_as_by_words(one, other, vocabulary, ("covered", found[1], more))
                answers[("more", wanted)] = answers.get(("more", wanted), 0) + 1
                unclosed = tuple(sorted(found[2] + ((near, far, stand),)))
                self.assert_as_by_words(one, other, vocabulary, ("covered", found[1], unclosed))
                k = source.randrange(len(more))
                wanted = self.assert_as_by_words(one, other, vocabulary, ("covered", found[1], more[:k] + more[k + 1:]))
                answers[("fewer", wanted)] = answers.get(("fewer", wanted), 0) + 1
        for key in (("more", True), ("more", False), ("fewer", True), ("fewer", False)):
            self.assertGreater(answers[key], 5, answers)

    def test_a_state_that_is_not_closed(self):
        one, words = ((A, B),), (("a", "b"), ())
        states = judge_cover(one, one, words)[2]
        more = tuple(sorted(states + (((A, B), (A, B), ()), ((), (ALL,), ()))))
        self.assertIs(cover_holds(one, one, words, ("covered", (), more)), True)
        bad = tuple(sorted(states + (((A,), (A, B), ()),)))
        self.assertIs(cover_holds(one, one, words, ("covered", (), bad)), False)
        self.assertIs(is_good(one, one, words, ((A,), (A, B), ())), False)

    def test_a_state_left_out(self):
        one, words = read_book("each some r a is b"), (("a",), ("r",))
        found = judge_cover(one, one, words)
        self.assertGreater(len(found[2]), 3)
        for k in range(len(found[2])):
            self.assertIs(cover_holds(one, one, words, ("covered", found[1], found[2][:k] + found[2][k + 1:])), False)
        self.assertIs(cover_holds(one, one, words, ("covered", found[1], ())), False)

    def test_a_state_that_is_not_good(self):
        words = (("a", "b"), ("r",))
        states = tuple(state for state, _ in states_of((), OTHER, words))
        self.assertEqual(faults_of_table((), OTHER, words, (), states), ["good"])
        self.assertIs(cover_holds((), OTHER, words, ("covered", (), states)), False)
        self.assertIs(cover_holds((), OTHER, words, ("covered", (), tuple(s for s in states if is_good((), OTHER, words, s)))), False)

    def test_the_order_and_the_form(self):
        one, words = ((A, B),), (("a", "b"), ())
        kind, pairs, states = judge_cover(one, one, words)
        for thing in ((kind, pairs, states[::-1]), (kind, pairs, states + states[-1:]), (kind, pairs, states[:1] + states), (kind, pairs, list(states)),
                      (kind, pairs), (kind, pairs, states, ()), [kind, pairs, states], (kind, states, pairs), (pairs, kind, states), ("sentence", pairs, states),
                      (kind, list(pairs), states), (kind, pairs, states[:1] + (list(states[1]),) + states[2:]), (kind, None, states), (kind, pairs, None)):
            self.assertIs(cover_holds(one, one, words, thing), False)
        self.assertIs(cover_holds(one, one, words, (kind, pairs, states)), True)

    def test_variants(self):
        one, other, words = read_book("each a is some r b\neach b is a"), read_book("each a is some r b"), (("a",), ("r",))
        thing = judge_cover(one, other, words)
        self.assertEqual(thing[0], "covered")
        answers = {True: 0, False: 0}
        for other_thing in variants(thing):
            answers[self.assert_as_by_words(one, other, words, other_thing)] += 1
        self.assertGreater(answers[False], 300)

    def test_other_values(self):
        for thing in odd_values() + [(), ("covered",), ("sentence",), ("covered", (), ()), ("covered", (), (((), (), ()),))]:
            for one, other in (((), ()), ((), OTHER)):
                self.assertIs(cover_holds(one, other, (("a", "c"), ()), thing), False, thing)
                for more in (("covered", thing, ()), ("covered", (), thing), ("covered", (), (thing,)), ("covered", (thing,), ()), (thing, (), ())):
                    self.assertIs(cover_holds(one, other, (("a", "c"), ()), more), False, more)


class SentencesOfOthersTest(unittest.TestCase):

    WORDS = (("a", "b", "c"), ("r",))

    def holds(self, *thing, one=(), other=OTHER, words=WORDS):
        smaller = [concept for many in range(1, 3) for concept in all_concepts(words, many)]
        wanted = is_cover(one, other, words, thing, smaller)
        self.assertIs(cover_holds(one, other, words, thing), wanted, thing)
        return wanted

    def test_other_lines_worlds_and_things(self):
        kind, left, right, lines, world, x = thing = judge_cover((), OTHER, self.WORDS)
        self.assertEqual((kind, left), ("sentence", A))
        self.assertIs(self.holds(*thing), True)
        self.assertIs(self.holds(kind, A, C, (("axiom", 0), ("axiom", 1), ("chain", 0, 1)), (3, (("a", (0, 2)), ("c", (1, 2))), ()), 0), True)
        self.assertIs(self.holds(kind, A, C, (("axiom", 0), ("axiom", 1), ("chain", 0, 1)), (3, (("a", (0, 2)), ("c", (1, 2))), ()), 2), False)
        self.assertIs(self.holds(kind, A, C, (("axiom", 0), ("axiom", 1)), (1, (("a", (0,)),), ()), 0), False)
        self.assertIs(self.holds(kind, A, C, (), (1, (("a", (0,)),), ()), 0), False)
        self.assertIs(self.holds(kind, A, C, lines, world, x), right == C)
        for wrong in (1, -1, True, False, None, "0", (0,)):
            self.assertIs(self.holds(kind, left, right, lines, world, wrong), False)
        self.assertIs(self.holds(kind, left, right, (("same", A),) + lines, world, x), False)
        self.assertIs(self.holds(kind, left, right, lines + (("same", A),), world, x), False)

    def test_a_world_that_is_no_model_of_one(self):
        other = ((A, B), (A, C))
        lines = (("axiom", 1),)
        self.assertIs(self.holds("sentence", A, C, lines, (1, (("a", (0,)), ("b", (0,))), ()), 0, one=((A, B),), other=other), True)
        self.assertIs(self.holds("sentence", A, C, lines, (1, (("a", (0,)),), ()), 0, one=((A, B),), other=other), False)
        self.assertIs(self.holds("sentence", A, B, (("axiom", 0),), (1, (("a", (0,)),), ()), 0, one=((A, B),), other=other), False)

    def test_a_left_side_that_is_not_least(self):
        lines = (("axiom", 0), ("left", A, B), ("chain", 1, 0), ("axiom", 1), ("chain", 2, 3))
        world = (1, (("a", (0,)), ("b", (0,))), ())
        self.assertIs(self.holds("sentence", both(A, B), C, lines, world, 0), False)
        self.assertEqual(faults_of_sentence((), OTHER, self.WORDS, ("sentence", both(A, B), C, lines, world, 0), [A]), ["least"])
        other, words = ((both(A, B), NONE), (some("r", B), NONE), (some("r", some("r", B)), NONE)), (("a", "b"), ("r",))
        self.assertIs(self.holds("sentence", both(A, B), NONE, (("axiom", 0),), world, 0, other=other, words=words), True)
        tied = (2, (("b", (1,)),), (("r", ((0, 1),)),))
        self.assertIs(self.holds("sentence", some("r", B), NONE, (("axiom", 1),), tied, 0, other=other, words=words), True)
        longer = (3, (("b", (2,)),), (("r", ((0, 1), (1, 2))),))
        self.assertIs(self.holds("sentence", some("r", some("r", B)), NONE, (("axiom", 2),), longer, 0, other=other, words=words), False)

    def test_a_right_side_that_is_not_lean(self):
        world = (1, (("a", (0,)),), ())
        start = (("axiom", 0), ("axiom", 1), ("chain", 0, 1))
        self.assertIs(self.holds("sentence", A, both(some("r", B), C), start + (("both", 0, 2),), world, 0), False)
        self.assertIs(self.holds("sentence", A, both(C, ALL), start + (("all", A), ("both", 2, 3)), world, 0), False)
        self.assertIs(self.holds("sentence", A, both(A, C), start + (("same", A), ("both", 3, 2)), world, 0), False)
        # Already "some r all" is told of a by other, and not by one.
        self.assertIs(self.holds("sentence", A, some("r", B), start[:1], world, 0), False)
        self.assertIs(self.holds("sentence", A, C, start, world, 0), True)

    def test_a_right_side_of_which_a_part_is_told_by_one(self):
        one, other = ((A, some("r", ALL)),), ((A, some("r", both(B, C))),)
        world = (2, (("a", (0,)),), (("r", ((0, 1),)),))
        step = (("axiom", 0), ("left", B, C), ("lift", "r", 1), ("chain", 0, 2))
        self.assertIs(self.holds("sentence", A, some("r", B), step, world, 0, one=one, other=other), True)
        self.assertIs(self.holds("sentence", A, some("r", both(B, C)), step[:1], world, 0, one=one, other=other), False)
        all_step = (("axiom", 0), ("all", both(B, C)), ("lift", "r", 1), ("chain", 0, 2))
        self.assertIs(self.holds("sentence", A, some("r", ALL), all_step, world, 0, one=one, other=other), False)

    def test_outside_of_the_vocabulary(self):
        for words, wanted in (((("a", "c"), ()), True), ((("a",), ()), False), ((("c",), ("r",)), False), (EMPTY, False)):
            thing = ("sentence", A, C, (("axiom", 0), ("axiom", 1), ("chain", 0, 1)), (1, (("a", (0,)),), ()), 0)
            self.assertIs(self.holds(*thing, words=words), wanted)
        # In these words the books are parted, too, but not by this sentence.
        for words in ((("a",), ("r",)), (("b", "c"), ("r",))):
            self.assertIs(does_cover((), OTHER, words), False)
            self.assertIs(self.holds("sentence", A, C, (("axiom", 0), ("axiom", 1), ("chain", 0, 1)), (1, (("a", (0,)),), ()), 0, words=words), False)
        thing = ("sentence", A, some("r", ALL), (("axiom", 0), ("all", B), ("lift", "r", 1), ("chain", 0, 2)), (1, (("a", (0,)),), ()), 0)
        for words, wanted in (((("a",), ("r",)), True), ((("a",), ("s",)), False), ((("a", "r"), ()), False)):
            self.assertIs(self.holds(*thing, words=words), wanted)

    def test_when_one_covers_other(self):
        thing = judge_cover((), OTHER, self.WORDS)
        self.assertIs(cover_holds(OTHER, OTHER, self.WORDS, thing), False)
        self.assertIs(cover_holds(OTHER, (), self.WORDS, thing), False)
        self.assertIs(cover_holds((), OTHER, (("b", "c"), ()), thing), False)
        table = judge_cover(OTHER, OTHER, self.WORDS)
        self.assertIs(cover_holds((), OTHER, self.WORDS, table), False)

    def test_none_as_the_right_side(self):
        other = ((both(A, B), NONE),)
        world = (1, (("a", (0,)), ("b", (0,))), ())
        lines = (("axiom", 0), ("none", some("r", C)), ("chain", 0, 1))
        self.assertIs(self.holds("sentence", both(A, B), NONE, lines[:1], world, 0, other=other), True)
        self.assertIs(self.holds("sentence", both(B, A), NONE, lines[:1], world, 0, other=other), False)
        # Any other concept that is not told by one is right, too, if it is lean.
        to_c = (("axiom", 0), ("none", C), ("chain", 0, 1))
        self.assertIs(self.holds("sentence", both(A, B), C, to_c, world, 0, other=other), True)
        self.assertIs(self.holds("sentence", both(A, B), some("r", C), lines, world, 0, other=other), False)
        self.assertIs(self.holds("sentence", both(A, B), some("r", NONE), (("axiom", 0), ("none", some("r", NONE)), ("chain", 0, 1)), world, 0, other=other), False)

    def test_variants(self):
        for one, other, words in (((), ((A, some("r", B)), (B, NONE)), (("a", "b"), ("r",))), (((A, some("r", ALL)),), ((A, some("r", both(B, C))),), self.WORDS),
                                  (((A, C),), ((A, C), (C, B)), (("a", "b"), ()))):
            thing = judge_cover(one, other, words)
            self.assertEqual(thing[0], "sentence")
            smaller = all_concepts(words, 1)
            right = 0
            for other_thing in variants(thing):
                wanted = is_cover(one, other, words, other_thing, smaller)
                right += wanted
                self.assertIs(cover_holds(one, other, words, other_thing), wanted, other_thing)
            self.assertGreater(right, 0)

    def test_lists_bools_too_short_too_long(self):
        thing = judge_cover((), OTHER, self.WORDS)
        for wrong in (list(thing), thing[:-1], thing + (0,), thing[:1] + thing[2:], ("covered",) + thing[1:], (thing,), thing[::-1],
                      thing[:5] + (False,), thing[:3] + (list(thing[3]),) + thing[4:], thing[:4] + (list(thing[4]), 0), (list(A),) + thing[1:]):
            self.assertIs(cover_holds((), OTHER, self.WORDS, wrong), False)

    def test_the_oracle_of_least_worlds(self):
        world = least_world_by_words(OTHER, some("r", A))
        # The root, its child, the kept thing of a, and that of b to which both are tied.
        self.assertEqual(world, (4, (("a", (1, 2)), ("b", (3,)), ("c", (1, 2))), (("r", ((0, 1), (0, 2), (1, 3), (2, 3))),)))
        self.assertIs(least_world_by_words(((B, NONE),), some("r", B)), None)
        self.assertIs(does_part((), OTHER, self.WORDS, A), True)
        self.assertIs(does_part((), OTHER, self.WORDS, B), False)
        self.assertIs(told_by_words(OTHER, A, C), True)


def path(many, end):
    return "some r " * many + end


class TooManyTest(unittest.TestCase):

    PATH = read_book("each x is some r a\neach a is some r b\neach b is some r c\neach c is some r d")
    RING = read_book("each x is some r x")

    def assert_too_many(self, bound, one, other, vocabulary):
        things = odd_values() + [(), ("covered", (), ()), ("covered", (), (((ALL,), (ALL,), ()),))]
        for call in ([lambda: does_cover(one, other, vocabulary), lambda: judge_cover(one, other, vocabulary), lambda: are_alike(one, other, vocabulary)]
                     + [lambda thing=thing: cover_holds(one, other, vocabulary, thing) for thing in things]):
            with self.assertRaises(TooMany) as caught:
                call()
            self.assertEqual(caught.exception.bound, bound)

    def test_rounds(self):
        vocabulary = ((), ("r",))
        self.assertEqual(rounds(self.PATH, self.RING, vocabulary), 4)
        self.assert_too_many(3, self.PATH, self.RING, vocabulary)
        self.assertEqual(rounds(self.PATH[:3], self.RING, vocabulary), 3)
        self.assertIs(does_cover(self.PATH[:3], self.RING, vocabulary), True)
        found = judge_cover(self.PATH[:3], ((ALL, some("r", ALL)),), (("x",), ("r",)))
        self.assertEqual(found[1:3], (ALL, some("r", ALL)))
        found = judge_cover(self.PATH[:3], self.RING, (("x",), ("r",)))
        self.assertEqual(found[1:3], (("word", "x"), some("r", ("word", "x"))))
        self.assertIs(does_cover(self.PATH, self.RING, (("x",), ())), True)

    def test_in_the_other_direction(self):
        vocabulary = ((), ("r",))
        self.assertEqual(rounds(self.RING, self.PATH, vocabulary), 0)
        self.assertIs(does_cover(self.RING, self.PATH, vocabulary), True)
        self.assertEqual(cover_holds(self.RING, self.PATH, vocabulary, judge_cover(self.RING, self.PATH, vocabulary)), True)
        for one, other in ((self.RING, self.PATH), (self.PATH, self.RING)):
            with self.assertRaises(TooMany) as caught:
                are_alike(one, other, vocabulary)
            self.assertEqual(caught.exception.bound, 3)

    def test_forty_and_more(self):
        one, other = read_book("each some r a is b"), read_book("each b is none")
        vocabulary = (("a", "b", "c", "d"), ("r", "s"))
        self.assertEqual(len(Books(one, other, vocabulary).reachable(60)), 40)
        self.assertEqual(judge_cover(one, other, vocabulary)[:3], ("sentence", B, NONE))
        one = read_book("each b is a\neach some r (a and b) is some s a")
        other = read_book("each some r b is (b and a)\neach some s b is a")
        self.assertEqual(len(Books(one, other, (("a", "b"), ("r", "s"))).reachable(60)), 41)
        self.assert_too_many(40, one, other, (("a", "b"), ("r", "s")))

    def test_forty_states_that_are_good(self):
        other = read_book("each (a and b) is none")
        vocabulary = (("a", "b", "c", "d", "e"), ())
        many = len(states_of(other, other, vocabulary))
        self.assertLess(many, 40)
        self.assertEqual(len(judge_cover(other, other, vocabulary)[2]), many)

    def chain(self, last):
        return read_book(f"each {path(4, 'all')} is m\neach {path(4, 'm')} is n\neach {path(last, 'n')} is none")

    def test_costs(self):
        vocabulary = ((), ("r",))
        found = judge_cover((), self.chain(3), vocabulary)
        self.assertEqual(found[:3], ("sentence", read_concept(path(11, "all")), NONE))
        self.assertEqual(size(found[1]), 12)
        self.assertIs(cover_holds((), self.chain(3), vocabulary, found), True)
        self.assertEqual(faults_of_cover((), self.chain(3), vocabulary, found, [read_concept(path(k, "all")) for k in range(11)]), [])
        self.assertEqual([size for state, size in states_of((), self.chain(4), vocabulary) if not is_good((), self.chain(4), vocabulary, state)], [13])
        self.assert_too_many(12, (), self.chain(4), vocabulary)
        self.assert_too_many(12, (), self.chain(5), vocabulary)
        self.assertIs(does_cover(self.chain(4), (), vocabulary), True)
        self.assertIs(does_cover((), self.chain(4), EMPTY), True)

    def test_a_cheap_one_beside_a_dear_one(self):
        cheap = self.chain(4) + ((read_concept(path(2, "all")), NONE),)
        self.assertEqual(judge_cover((), cheap, ((), ("r",)))[1], read_concept(path(2, "all")))
        with_name = read_book(f"each {path(4, 'all')} is m\neach {path(4, 'm')} is n\neach {path(3, 'n')} is b")
        self.assertEqual(judge_cover((), with_name, (("b",), ("r",)))[1:3], (read_concept(path(11, "all")), B))

    LONG = read_book("each y is some r e\neach e is some r f\neach f is some r g\neach g is some r h\neach h is some r k")

    def test_more_than_one_at_once(self):
        # Rounds of 4 beside a least cost of 13, and both beside more than 40 states.
        one, other, vocabulary = self.PATH, self.LONG + self.chain(4), ((), ("r",))
        self.assertEqual(rounds(one, other, vocabulary), 4)
        states = states_of(one, other, vocabulary)
        self.assertEqual([cost for state, cost in states if not is_good(one, other, vocabulary, state)], [13])
        self.assert_too_many(3, one, other, vocabulary)
        many = (("p", "q", "s", "t", "u", "v"), ("r",))
        self.assert_too_many(40, self.PATH[:3], self.LONG, many)
        self.assert_too_many(3, one, other, many)
        self.assert_too_many(12, (), self.chain(4), (("p",), ("r",)))
        self.assert_too_many(40, (), self.chain(4), many)

    def test_are_alike_first_for_one_and_other(self):
        vocabulary = ((), ("r",))
        one, other = self.PATH + self.chain(4), self.RING
        for books, bound in (((one, other), 3), ((other, one), 12)):
            for function in (does_cover, are_alike):
                with self.assertRaises(TooMany) as caught:
                    function(*books, vocabulary)
                self.assertEqual(caught.exception.bound, bound)

    def test_always_both(self):
        # The ring does not cover the path, which is known without the other direction.
        vocabulary = (("e",), ("r",))
        path_with_name = self.PATH + ((ALL, ("word", "e")),)
        self.assertIs(does_cover(self.RING, path_with_name, vocabulary), False)
        for books in ((self.RING, path_with_name), (path_with_name, self.RING)):
            with self.assertRaises(TooMany) as caught:
                are_alike(*books, vocabulary)
            self.assertEqual(caught.exception.bound, 3)

    def test_without_roles(self):
        source = random.Random(54)
        for _ in range(60):
            one, other = made_book(source, 5, 4, names="abcd"), made_book(source, 5, 4, names="abcd")
            for names in (("a", "b", "c", "d"), ("a", "c"), ()):
                self.assertIn(are_alike(one, other, (names, ())), (True, False))
                self.assertIs(cover_holds(one, other, (names, ()), judge_cover(one, other, (names, ()))), True)
        self.assertIs(does_cover(self.PATH, self.RING, (("a", "b", "c", "x"), ())), True)


class LimitsTest(unittest.TestCase):

    def test_books_at_the_limits(self):
        source, slowest, kinds = random.Random(55), 0, set()
        for k in range(60):
            other = made_book(source, 6, 5, names="abcdef", odd=(0.02, 0.1)[k % 2])
            one = made_book(source, 6, 5, names="abcdef") if k % 3 else other[:-1]
            for vocabulary in ((("a", "b", "c", "d"), ("r", "s")), (("a", "b"), ("r",)), (("a",), ("r", "s"))):
                begin = time.perf_counter()
                try:
                    found = judge_cover(one, other, vocabulary)
                    kinds.add(found[0])
                    self.assertIs(cover_holds(one, other, vocabulary, found), True)
                except TooMany as error:
                    kinds.add(error.bound)
                slowest = max(slowest, time.perf_counter() - begin)
        self.assertLess(slowest, 1)
        self.assertTrue({"covered", "sentence", 40} <= kinds)

    def test_many_ties_and_long_ways_out(self):
        other = read_book("\n".join(["each a is (some r b and some s c)", "each b is (some r c and some s d)", "each c is (some r d and some s e)",
                                     "each d is (some r a and some s f)", "each e is some r (a and f)", "each f is some r (b and d)"]))
        one = read_book("\n".join(["each a is (some r b and some s c)", "each b is (some r c and some s d)", "each c is (some r d and some s e)",
                                   "each d is (some r x and some s x)", "each e is some r x"]))
        begin = time.perf_counter()
        for words in ((("a",), ("r", "s")), (("a", "f"), ("r",)), (("c", "d"), ("r", "s")), (("a", "b", "c", "d"), ())):
            for books in ((one, other), (other, one)):
                try:
                    found = judge_cover(*books, words)
                    self.assertEqual(faults_of_cover(*books, words, found), [])
                    self.assertIs(cover_holds(*books, words, found), True)
                except TooMany:
                    pass
        self.assertLess(time.perf_counter() - begin, 8)

    def test_tables_of_eighty_states(self):
        words = (("a", "b", "c", "d"), ())
        near = [tuple(sorted((ALL,) + tuple(("word", name) for name in names))) for k in range(5) for names in itertools.combinations("abcd", k)]
        states = [(kept, far, ()) for kept in near for far in near if set(far) <= set(kept)]
        books = Books((), (), words)
        self.assertEqual(len(states), 81)
        self.assertTrue(all(is_state_by_words(books, state) for state in states))
        begin = time.perf_counter()
        self.assertIs(cover_holds((), (), words, ("covered", (), tuple(sorted(states)))), True)
        self.assertIs(cover_holds((), (), words, ("covered", (), tuple(sorted(states))[1:])), False)
        self.assertLess(time.perf_counter() - begin, 1)


class AnswersTest(unittest.TestCase):

    def test_what_is_passed_stays_and_answers_repeat(self):
        source = random.Random(56)
        for _ in range(30):
            one, other = books_beside(source)
            arguments = (one, other, (("a",), ("r",)))
            before = copy.deepcopy(arguments)
            try:
                found = judge_cover(*arguments)
                self.assertEqual(found, judge_cover(*copy.deepcopy(arguments)))
                self.assertEqual(found, judge_cover(vocabulary=(("a",), ("r",)), other=other, one=one))
                thing = copy.deepcopy(found)
                self.assertIs(cover_holds(*arguments, thing), True)
                self.assertEqual(thing, found)
            except TooMany:
                self.assertRaises(TooMany, judge_cover, *copy.deepcopy(arguments))
            self.assertEqual(arguments, before)

    def test_defined_in_the_file(self):
        for name in ("does_cover", "are_alike", "judge_cover", "cover_holds"):
            self.assertEqual(getattr(covering, name).__module__, "tellalike.covering")


if __name__ == "__main__":
    unittest.main()
