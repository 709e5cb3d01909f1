"""tellalike.editions: vocabularies that see a change, borders, steps and first likes."""

import copy
import itertools
import random
import time
import unittest

from certificates import contained_by_words, contains, faults_of_border
from oracles import made_book
from samples import A, ALL, B, C, NONE, both, odd_values, some, variants
from tellalike import editions as editions_module
from tellalike.concepts import is_vocabulary, read_book
from tellalike.covering import are_alike, cover_holds, judge_cover
from tellalike.editions import border_holds, does_see, first_like, judge_border, steps
from tellalike.errors import BadBook, BadEditions, BadVocabulary, TooMany

ONE, TWO = ((A, C), (C, B)), ((A, B),)
WHOLE = (("a", "b", "c"), ())
EMPTY = ((), ())


def is_border(one, other, vocabulary, thing):
    """Whether any value is a certificate of [9.2], slowly."""
    if not isinstance(thing, tuple) or len(thing) != 3 or thing[0] != "border":
        return False
    for rows, many in zip(thing[1:], (3, 5)):
        if not isinstance(rows, tuple) or not all(isinstance(row, tuple) and len(row) == many and is_vocabulary(row[0]) for row in rows):
            return False
    return not faults_of_border(one, other, vocabulary, thing)


def editions_beside(source, many=2):
    """Books that have much in common."""
    book = made_book(source, source.randint(1, 3), 3, names="abc", odd=0.05)
    found = []
    for _ in range(many):
        kind = source.random()
        if kind < 0.4:
            found.append(book[1:] + made_book(source, 1, 3, names="abc"))
        elif kind < 0.7:
            found.append(book + made_book(source, 1, 2, names="abc"))
        else:
            found.append(book[::-1] if kind < 0.85 else book[:-1])
    return tuple(found)


class SeeingTest(unittest.TestCase):

    def test_the_example(self):
        self.assertIs(does_see(ONE, TWO, (("a", "b"), ())), False)
        self.assertEqual(steps((ONE, TWO, ONE), (("a", "c"), ())), (1, 2))
        self.assertEqual(first_like((ONE, TWO, ONE), (("a", "c"), ())), (0, 1, 0))
        self.assertEqual(first_like((ONE, TWO), (("a", "b"), ())), (0, 0))
        border = judge_border(ONE, TWO, WHOLE)
        self.assertEqual([part[0] for part in border[1]], [(("a", "c"), ()), (("b", "c"), ())])
        self.assertEqual([part[1] for part in border[1]], ["lost", "lost"])
        self.assertEqual([part[0] for part in border[2]], [(("a", "b"), ()), (("c",), ())])

    def test_changes(self):
        for one, other, vocabulary, wanted in (
            ((), ((A, B),), (("a", "b"), ()), True), ((), ((A, B),), (("a",), ()), False), ((), ((A, B),), (("b",), ("r",)), False), ((), (), WHOLE, False),
            ((), ((ALL, NONE),), EMPTY, True), ((), ((A, NONE),), EMPTY, False), (((A, B),), ((A, B), (A, B)), WHOLE, False), (((A, B),), (), (("a", "b"), ("r",)), True),
            ((), ((A, some("r", ALL)),), (("a",), ("r",)), True), ((), ((A, some("r", ALL)),), (("a",), ("s",)), False),
        ):
            self.assertIs(does_see(one, other, vocabulary), wanted)
            self.assertIs(does_see(other, one, vocabulary), wanted)
            self.assertIs(does_see(vocabulary=vocabulary, other=other, one=one), wanted)

    def test_what_contains_one_that_sees_sees(self):
        source, answers = random.Random(81), {True: 0, False: 0}
        whole = (("a", "b", "c"), ("r",))
        for _ in range(60):
            one, other = editions_beside(source)
            seen = {}
            for few in contained_by_words(whole):
                try:
                    seen[few] = does_see(one, other, few)
                    self.assertIs(seen[few], not are_alike(one, other, few))
                    answers[seen[few]] += 1
                except TooMany:
                    self.assertRaises(TooMany, are_alike, one, other, few)
            for few, more in itertools.product(seen, repeat=2):
                if contains(more, few) and seen[few]:
                    self.assertIs(seen[more], True)
        self.assertGreater(min(answers.values()), 30)


class BorderTest(unittest.TestCase):

    def judged(self, one, other, vocabulary):
        found = judge_border(one, other, vocabulary)
        self.assertEqual(len(found), 3)
        self.assertEqual(faults_of_border(one, other, vocabulary, found), [], (one, other, vocabulary))
        self.assertIs(border_holds(one, other, vocabulary, found), True)
        self.assertEqual(judge_border(vocabulary=vocabulary, other=other, one=one), found)
        return found

    def seen_and_unseen(self, one, other, vocabulary):
        _, seen, unseen = self.judged(read_book(one), read_book(other), vocabulary)
        return [(row[0], row[1]) for row in seen], [row[0] for row in unseen]

    def test_seen_by_none(self):
        self.assertEqual(self.seen_and_unseen("each a is b", "each a is b\neach a is b", WHOLE), ([], [WHOLE]))
        self.assertEqual(self.seen_and_unseen("", "each x is y", (("a", "x"), ("r",))), ([], [(("a", "x"), ("r",))]))
        self.assertEqual(self.seen_and_unseen("", "each a is b", EMPTY), ([], [EMPTY]))
        self.assertEqual(self.judged((), (), EMPTY), ("border", (), ((EMPTY, (), (((ALL,), (ALL,), ()),), (), (((ALL,), (ALL,), ()),)),)))

    def test_seen_by_all(self):
        for whole in (EMPTY, WHOLE, (("a",), ("r", "s"))):
            self.assertEqual(self.seen_and_unseen("", "each all is none", whole), ([(EMPTY, "new")], []))
            self.assertEqual(self.seen_and_unseen("each all is none", "", whole), ([(EMPTY, "lost")], []))

    def test_several_least_ones(self):
        self.assertEqual(self.seen_and_unseen("", "each a is b\neach c is d", (("a", "b", "c", "d"), ())), (
            [((("a", "b"), ()), "new"), ((("c", "d"), ()), "new")],
            [((("a", "c"), ())), ((("a", "d"), ())), ((("b", "c"), ())), ((("b", "d"), ()))]))
        self.assertEqual(self.seen_and_unseen("each a is b", "each a is c", WHOLE), ([((("a", "b"), ()), "lost"), ((("a", "c"), ()), "new")], [(("a",), ()), (("b", "c"), ())]))
        self.assertEqual(self.seen_and_unseen("", "each all is some r all\neach a is some s all", (("a",), ("r", "s"))), (
            [(((), ("r",)), "new"), ((("a",), ("s",)), "new")], [((), ("s",)), (("a",), ())]))
        self.assertEqual(self.seen_and_unseen("", "each all is a", (("a", "b"), ("r",))), ([((("a",), ()), "new")], [(("b",), ("r",))]))

    def test_lost_and_new_and_both(self):
        words = (("a", "b"), ())
        self.assertEqual(self.seen_and_unseen("each a is b", "", words)[0], [(words, "lost")])
        self.assertEqual(self.seen_and_unseen("", "each a is b", words)[0], [(words, "new")])
        one, other = ((A, B),), ((B, A),)
        kind, seen, unseen = self.judged(one, other, words)
        self.assertEqual((len(seen), seen[0][0]), (1, words))
        lost, new = judge_cover(other, one, words), judge_cover(one, other, words)
        for side, sentence, wanted in (("lost", lost, True), ("new", new, True), ("lost", new, False), ("new", lost, False), ("both", new, False), (None, lost, False)):
            self.assertIs(border_holds(one, other, words, (kind, ((words, side, sentence),), unseen)), wanted)

    def test_one_word_as_a_name_and_as_a_role(self):
        whole = (("r",), ("r",))
        self.assertEqual(self.seen_and_unseen("", "each r is some r r", whole), ([(whole, "new")], [((), ("r",)), (("r",), ())]))

    def test_many_borders(self):
        source, numbers = random.Random(82), {}
        for _ in range(120):
            one, other = editions_beside(source)
            words = source.sample(["a", "b", "c", "r "], source.randint(0, 4))
            vocabulary = (tuple(sorted(word for word in words if len(word) == 1)), tuple(word.strip() for word in words if len(word) > 1))
            try:
                found = self.judged(one, other, vocabulary)
            except TooMany:
                continue
            numbers[(len(found[1]), len(found[2]))] = numbers.get((len(found[1]), len(found[2])), 0) + 1
            back = self.judged(other, one, vocabulary)
            self.assertEqual([row[0] for row in back[1]], [row[0] for row in found[1]])
            self.assertEqual([row[0] for row in back[2]], [row[0] for row in found[2]])
            for row in found[1]:
                books = (other, one) if row[1] == "lost" else (one, other)
                self.assertIs(cover_holds(*books, row[0], row[2]), True)
            for few, pairs, states, more_pairs, more_states in found[2]:
                self.assertIs(cover_holds(other, one, few, ("covered", pairs, states)), True)
                self.assertIs(cover_holds(one, other, few, ("covered", more_pairs, more_states)), True)
        self.assertGreater(len(numbers), 4, numbers)

    def test_too_many(self):
        path = read_book("each x is some r a\neach a is some r b\neach b is some r c\neach c is some r d")
        ring = read_book("each x is some r x")
        for books in ((path, ring), (ring, path)):
            with self.assertRaises(TooMany) as caught:
                does_see(*books, ((), ("r",)))
            self.assertEqual(caught.exception.bound, 3)
            self.assertIn(does_see(*books, (("a", "x"), ())), (True, False))
            self.assertIs(border_holds(*books, (("a", "b"), ()), judge_border(*books, (("a", "b"), ()))), True)
            self.assertRaises(TooMany, judge_border, *books, ((), ("r",)))


class CertificatesOfOthersTest(unittest.TestCase):

    def setUp(self):
        self.border = judge_border(ONE, TWO, WHOLE)

    def holds(self, seen=None, unseen=None, books=(ONE, TWO)):
        thing = ("border", self.border[1] if seen is None else seen, self.border[2] if unseen is None else unseen)
        wanted = is_border(*books, WHOLE, thing)
        self.assertIs(border_holds(*books, WHOLE, thing), wanted)
        return wanted

    def test_left_out_twice_and_out_of_order(self):
        _, seen, unseen = self.border
        self.assertIs(self.holds(), True)
        for k in range(2):
            self.assertIs(self.holds(seen=(seen[k],)), False)
            self.assertIs(self.holds(unseen=(unseen[k],)), False)
            self.assertIs(self.holds(seen=seen + (seen[k],)), False)
            self.assertIs(self.holds(unseen=(unseen[k],) + unseen), False)
        self.assertIs(self.holds(seen=()), False)
        self.assertIs(self.holds(unseen=()), False)
        self.assertIs(self.holds(seen=seen[::-1]), False)
        self.assertIs(self.holds(unseen=unseen[::-1]), False)
        self.assertIs(self.holds(seen=list(seen)), False)
        self.assertIs(self.holds(unseen=list(unseen)), False)
        self.assertIs(self.holds(seen=unseen, unseen=seen), False)

    def test_one_too_many(self):
        _, seen, unseen = self.border
        greater = (WHOLE, "lost", judge_cover(TWO, ONE, WHOLE))
        self.assertIs(self.holds(seen=tuple(sorted(seen + (greater,)))), False)
        self.assertIs(self.holds(seen=(greater,)), False)
        tables = judge_cover(TWO, ONE, EMPTY)[1:] + judge_cover(ONE, TWO, EMPTY)[1:]
        self.assertIs(self.holds(unseen=((EMPTY,) + tables,) + unseen), False)
        smaller = (("a",), ())
        tables = judge_cover(TWO, ONE, smaller)[1:] + judge_cover(ONE, TWO, smaller)[1:]
        self.assertIs(self.holds(unseen=tuple(sorted(unseen + ((smaller,) + tables,)))), False)
        self.assertIs(self.holds(unseen=((smaller,) + tables, unseen[1])), False)
        outside = (("d",), ())
        tables = judge_cover(TWO, ONE, outside)[1:] + judge_cover(ONE, TWO, outside)[1:]
        self.assertIs(self.holds(unseen=unseen + ((outside,) + tables,)), False)

    def test_tables_exchanged(self):
        book = ((A, some("r", B)),)
        other = book + ((some("r", B), some("r", ALL)), (A, some("r", ALL)))
        words = (("a",), ("r",))
        kind, seen, unseen = judge_border(book, other, words)
        self.assertEqual((seen, len(unseen)), ((), 1))
        few, pairs, states, more_pairs, more_states = unseen[0]
        self.assertNotEqual((pairs, states), (more_pairs, more_states))
        for rows, wanted in (((few, pairs, states, more_pairs, more_states), True), ((few, more_pairs, more_states, pairs, states), False),
                             ((few, pairs, states, pairs, states), False), ((few, pairs, more_states, more_pairs, states), False), ((few, pairs, states), False)):
            thing = (kind, (), (rows,))
            self.assertEqual(is_border(book, other, words, thing), wanted)
            self.assertIs(border_holds(book, other, words, thing), wanted)
            back = (few, more_pairs, more_states, pairs, states) == rows
            self.assertIs(border_holds(other, book, words, thing), back)

    def test_books_exchanged(self):
        self.assertIs(self.holds(books=(TWO, ONE)), False)
        exchanged = tuple((few, {"lost": "new", "new": "lost"}[side], sentence) for few, side, sentence in self.border[1])
        tables = tuple((row[0],) + row[3:] + row[1:3] for row in self.border[2])
        self.assertIs(self.holds(seen=exchanged, unseen=tables, books=(TWO, ONE)), True)
        self.assertIs(self.holds(seen=exchanged), False)

    def test_other_sentences_and_tables(self):
        _, seen, unseen = self.border
        few, side, sentence = seen[0]
        self.assertEqual(sentence[1:3], (A, C))
        wider = ("sentence", A, C, (("same", A), ("axiom", 0)), (2, (("a", (0, 1)), ("b", (0, 1))), ()), 1)
        self.assertIs(self.holds(seen=((few, side, wider), seen[1])), True)
        for wrong in (wider[:5] + (0,) + (0,), wider[:4] + ((1, (("a", (0,)),), ()), 0), ("sentence", both(A, A)) + wider[2:], wider[:3] + ((),) + wider[4:], seen[1][2], None, ()):
            self.assertIs(self.holds(seen=((few, side, wrong), seen[1])), False)
        self.assertIs(self.holds(seen=((few, side, ("covered", (), ())), seen[1])), False)
        for k in range(1, 5):
            self.assertIs(self.holds(unseen=(unseen[0][:k] + ((),) + unseen[0][k + 1:], unseen[1])), k % 2 == 1)
            self.assertIs(self.holds(unseen=(unseen[0][:k] + (None,) + unseen[0][k + 1:], unseen[1])), False)

    def test_variants(self):
        one, other, words = ((A, B),), (), (("a", "b"), ())
        thing, right = judge_border(one, other, words), 0
        for other_thing in variants(thing):
            wanted = is_border(one, other, words, other_thing)
            right += wanted
            self.assertIs(border_holds(one, other, words, other_thing), wanted, other_thing)
        self.assertGreater(right, 0)

    def test_other_values(self):
        for thing in odd_values() + [(), ("border",), ("border", ()), ("border", (), (), ()), self.border[:2], list(self.border), self.border + ((),), self.border[1:]]:
            self.assertIs(border_holds(ONE, TWO, WHOLE, thing), False, thing)
            for more in (("border", thing, self.border[2]), ("border", self.border[1], thing), ("border", (thing,), ()), ("border", (), (thing,)), (thing, (), ()),
                         ("border", ((thing, "lost", ()),), ()), ("border", (), ((thing, (), (), (), ()),)), ("border", ((EMPTY, thing, thing),), ())):
                self.assertIs(border_holds(ONE, TWO, WHOLE, more), False, more)
        self.assertIs(border_holds((), (), EMPTY, ("border", (), ())), False)


class StepsTest(unittest.TestCase):

    AB, AC = (("a", "b"), ()), (("a", "c"), ())

    def test_steps_and_first_likes(self):
        three = ((A, B), (B, C))
        for editions, vocabulary, wanted, first in (
            ((ONE, TWO), self.AB, (), (0, 0)), ((ONE, TWO), self.AC, (1,), (0, 1)), (((), TWO, (), TWO), self.AB, (1, 2, 3), (0, 1, 0, 1)),
            (((), (), TWO, TWO), self.AB, (2,), (0, 0, 2, 2)), ((ONE, TWO, three, ONE), self.AC, (1, 2), (0, 1, 0, 0)), ((ONE, TWO, (), three), self.AB, (2, 3), (0, 0, 2, 0)),
            ((ONE, TWO, three, ()), EMPTY, (), (0, 0, 0, 0)), ((TWO, ONE, (), ((A, C),)), WHOLE, (1, 2, 3), (0, 1, 2, 3)),
        ):
            self.assertEqual(steps(editions, vocabulary), wanted)
            self.assertEqual(first_like(editions, vocabulary), first)
            self.assertEqual(steps(vocabulary=vocabulary, editions=editions), wanted)
            self.assertEqual(first_like(vocabulary=vocabulary, editions=editions), first)

    def test_many_editions(self):
        source, again = random.Random(83), 0
        for _ in range(120):
            editions = editions_beside(source, source.randint(2, 4))
            vocabulary = source.choice(((("a", "b"), ()), (("a",), ("r",)), (("a", "b", "c"), ())))
            try:
                alike = {(j, k): are_alike(editions[j], editions[k], vocabulary) for j in range(len(editions)) for k in range(len(editions))}
            except TooMany:
                continue
            found, first = steps(editions, vocabulary), first_like(editions, vocabulary)
            self.assertEqual(found, tuple(k for k in range(1, len(editions)) if not alike[(k - 1, k)]))
            self.assertEqual(first, tuple(min(j for j in range(len(editions)) if alike[(j, k)]) for k in range(len(editions))))
            again += any(first[k] < k and k in found for k in range(len(editions)))
        self.assertGreater(again, 3)

    def test_too_many(self):
        path = read_book("each x is some r a\neach a is some r b\neach b is some r c\neach c is some r d")
        ring = read_book("each x is some r x")
        for function in (steps, first_like):
            with self.assertRaises(TooMany) as caught:
                function((path, ring), ((), ("r",)))
            self.assertEqual(caught.exception.bound, 3)

    def test_no_editions(self):
        wrong = [(), (ONE,), (ONE,) * 5, (ONE,) * 6, [ONE, TWO], [ONE, TWO, ONE], (ONE, list(TWO)), (ONE, None), (ONE, ((A, A, B),)), (ONE, (A, B)), (None, ONE), (ONE, [TWO[0]]),
                 ((), (), (), 0), {0: ONE, 1: TWO}, ONE[0]]
        for thing in wrong + odd_values():
            if thing == ((),):
                continue
            for function in (steps, first_like):
                for call in (lambda: function(thing, self.AB), lambda: function(thing, [1]), lambda: function(vocabulary=None, editions=thing)):
                    with self.assertRaises(BadEditions) as caught:
                        call()
                    self.assertIs(caught.exception.thing, thing)
        for function in (steps, first_like):
            for many in (2, 3, 4):
                self.assertEqual(len(function(((),) * many, EMPTY)), 0 if function is steps else many)
            for thing in odd_values() + [(), (("b", "a"), ()), [(), ()]]:
                with self.assertRaises(BadVocabulary) as caught:
                    function((ONE, TWO), thing)
                self.assertIs(caught.exception.thing, thing)


class WrongArgumentsTest(unittest.TestCase):

    def test_the_first_wrong_one(self):
        one, two, three, four = [1], [2], [3], [4]
        for function, rest in ((does_see, {}), (judge_border, {}), (border_holds, {"thing": four})):
            for arguments, error, value in (((one, two, three), BadBook, one), ((ONE, two, three), BadBook, two), ((ONE, TWO, three), BadVocabulary, three)):
                for call in (lambda: function(*arguments, *rest.values()), lambda: function(**rest, vocabulary=arguments[2], other=arguments[1], one=arguments[0])):
                    with self.assertRaises(error) as caught:
                        call()
                    self.assertIs(caught.exception.thing, value)

    def test_what_is_passed_stays_and_answers_repeat(self):
        source = random.Random(84)
        for _ in range(15):
            one, other = editions_beside(source)
            arguments = (one, other, (("a", "b"), ("r",)))
            before = copy.deepcopy(arguments)
            try:
                found = judge_border(*arguments)
                self.assertEqual(found, judge_border(*copy.deepcopy(arguments)))
                self.assertIs(border_holds(*arguments, copy.deepcopy(found)), True)
                self.assertEqual(steps((one, other), arguments[2]), steps((one, other), arguments[2]))
            except TooMany:
                self.assertRaises(TooMany, judge_border, *copy.deepcopy(arguments))
            self.assertEqual(arguments, before)
        for thing in (["border", [], []], ("border", [[]], []), ("border", ([EMPTY, "new", []],), ())):
            before = copy.deepcopy(thing)
            self.assertIs(border_holds(ONE, TWO, WHOLE, thing), False)
            self.assertEqual(thing, before)

    def test_defined_in_the_file(self):
        for name in ("does_see", "judge_border", "border_holds", "steps", "first_like"):
            self.assertEqual(getattr(editions_module, name).__module__, "tellalike.editions")


class LimitsTest(unittest.TestCase):

    def test_books_at_the_limits(self):
        source, slowest, kinds = random.Random(85), 0, set()
        for k in range(24):
            other = made_book(source, 6, 5, names="abcdef", odd=(0.02, 0.1)[k % 2])
            one = other[:-1] + made_book(source, 1, 5, names="abcd") if k % 3 else made_book(source, 6, 5, names="abcd")
            for vocabulary in ((("a", "b", "c"), ("r",)), (("a", "b"), ("r", "s")), (("a", "b", "c", "d"), ())):
                begin = time.perf_counter()
                try:
                    found = judge_border(one, other, vocabulary)
                    kinds.add(len(found[1]))
                    self.assertIs(border_holds(one, other, vocabulary, found), True)
                    steps((one, other, one[1:], other[1:]), vocabulary)
                    first_like((one, other, one[1:], other[1:]), vocabulary)
                except TooMany as error:
                    kinds.add(error.bound)
                slowest = max(slowest, time.perf_counter() - begin)
        self.assertLess(slowest, 1.5)
        self.assertTrue({0, 1, 40} <= kinds, kinds)


if __name__ == "__main__":
    unittest.main()
