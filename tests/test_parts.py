"""tellalike.parts: parts of a book that are enough for a vocabulary, least ones, and needed axioms."""

import copy
import itertools
import random
import time
import unittest

from certificates import faults_of_cover, faults_of_least, faults_of_sentence, faults_of_table, part_book
from oracles import Books, made_book
from samples import A, ALL, B, C, both, odd_values, some, variants
from tellalike import parts as parts_module
from tellalike.concepts import read_book
from tellalike.covering import cover_holds, does_cover, judge_cover
from tellalike.errors import BadBook, BadPart, BadVocabulary, TooMany
from tellalike.parts import book_of, is_part, judge_least, judge_part, least_holds, needed, part_holds

BOOK, AB = ((A, C), (C, B), (A, B)), (("a", "b"), ())
EMPTY = ((), ())
VOCABULARIES = (AB, (("a", "b", "c"), ()), (("a",), ("r",)), (("a", "b"), ("r",)), EMPTY)


def all_parts(book):
    return [part for k in range(len(book) + 1) for part in itertools.combinations(range(len(book)), k)]


def is_least(book, vocabulary, thing):
    """Whether any value is a certificate of [10.2], slowly."""
    if not isinstance(thing, tuple) or len(thing) != 5 or thing[0] != "part" or not is_part_by_words(book, thing[1]):
        return False
    return isinstance(thing[4], tuple) and not faults_of_least(book, vocabulary, thing)


def is_part_by_words(book, thing):
    return isinstance(thing, tuple) and all(type(k) is int for k in thing) and thing in all_parts(book)


def made(source):
    """A book with axioms that others tell in many cases."""
    book = list(made_book(source, source.randint(1, 4), 3, names="abc", odd=0.04))
    if source.random() < 0.5:
        book.append(source.choice(book))
    if source.random() < 0.3:
        book += [(A, C), (C, B), (A, B)][:source.randint(1, 3)]
    return tuple(source.sample(book, len(book)))[:6]


class PartsTest(unittest.TestCase):

    def test_the_example(self):
        self.assertEqual(book_of(BOOK, (0, 2)), ((A, C), (A, B)))
        self.assertEqual(judge_part(BOOK, AB, (0,))[0], "lost")
        self.assertEqual(judge_part(BOOK, AB, (0, 1))[0], "enough")
        self.assertEqual(judge_least(BOOK, AB)[0], "part")
        self.assertEqual(needed(BOOK, AB), ())
        self.assertEqual(needed(BOOK, (("a", "c"), ())), (0,))

    def test_what_parts_are(self):
        for part in all_parts(BOOK):
            self.assertIs(is_part(BOOK, part), True)
            self.assertIs(is_part(thing=part, book=BOOK), True)
            self.assertEqual(book_of(BOOK, part), tuple(BOOK[k] for k in part))
            self.assertEqual(book_of(part=part, book=BOOK), part_book(BOOK, part))
        self.assertIs(is_part((), ()), True)
        self.assertEqual(book_of((), ()), ())
        self.assertEqual(book_of(BOOK * 2, (1, 4)), (BOOK[1], BOOK[1]))

    NO_PARTS = [(1, 0), (0, 0), (0, 1, 1), (-1,), (-1, 0), (3,), (0, 3), (True,), (False,), (0, True), (False, 1), [0], [], [0, 1], ("0",), (None,), ((0,),), ([0],), (0, None),
                (10 ** 39,), {0: 1}, "01", 0, 1, (0, (1,)), BOOK, (A,)]

    def test_no_parts(self):
        for thing in self.NO_PARTS + [thing for thing in odd_values() if thing != (0,)]:
            self.assertIs(is_part(BOOK, thing), False, thing)
            for call in (lambda: book_of(BOOK, thing), lambda: judge_part(BOOK, AB, thing), lambda: part_holds(BOOK, AB, thing, ("enough", (), ())),
                         lambda: part_holds(thing=None, part=thing, vocabulary=AB, book=BOOK)):
                with self.assertRaises(BadPart) as caught:
                    call()
                self.assertIs(caught.exception.thing, thing)
        self.assertIs(is_part((), (0,)), False)

    def test_enough(self):
        for part, vocabulary, wanted in (((), AB, False), ((0, 1, 2), AB, True), ((2,), AB, True), ((0, 1), AB, True), ((0,), AB, False), ((1, 2), AB, True),
                                         ((), EMPTY, True), ((), (("a",), ("r",)), True), ((1, 2), (("a", "c"), ()), False), ((0, 2), (("b", "c"), ()), False)):
            found = judge_part(BOOK, vocabulary, part)
            self.assertEqual(found[0], "enough" if wanted else "lost")
            self.assertIs(part_holds(BOOK, vocabulary, part, found), True)
            self.assertIs(part_holds(thing=found, part=part, vocabulary=vocabulary, book=BOOK), True)
            self.assertEqual(judge_part(part=part, vocabulary=vocabulary, book=BOOK), found)

    def test_many_parts(self):
        source, kinds = random.Random(91), {"enough": 0, "lost": 0}
        for _ in range(60):
            book, vocabulary, enough = made(source), source.choice(VOCABULARIES), {}
            try:
                for part in all_parts(book):
                    found = judge_part(book, vocabulary, part)
                    kinds[found[0]] += 1
                    enough[part] = found[0] == "enough"
                    if enough[part]:
                        self.assertEqual(faults_of_table(part_book(book, part), book, vocabulary, *found[1:]), [])
                        self.assertIs(cover_holds(part_book(book, part), book, vocabulary, ("covered",) + found[1:]), True)
                    else:
                        self.assertEqual((len(found), faults_of_sentence(part_book(book, part), book, vocabulary, found[1])), (2, []))
                        self.assertIs(cover_holds(part_book(book, part), book, vocabulary, found[1]), True)
                    self.assertIs(part_holds(book, vocabulary, part, found), True)
            except TooMany:
                continue
            for few, more in itertools.product(enough, repeat=2):
                if enough[few] and set(few) <= set(more):
                    self.assertIs(enough[more], True)
            self.assertIs(enough[tuple(range(len(book)))], True)
            in_all = [k for k in range(len(book)) if all(k in part for part in enough if enough[part])]
            self.assertEqual(needed(book, vocabulary), tuple(in_all))
            least = judge_least(book, vocabulary)[1]
            self.assertTrue(enough[least] and not any(enough[part] for part in enough if set(part) < set(least)))
        self.assertGreater(min(kinds.values()), 100)


class PartCertificatesOfOthersTest(unittest.TestCase):

    def test_enough_of_others(self):
        words = (("a",), ("r",))
        book = ((A, some("r", A)), (A, some("r", ALL)))
        few = book[:1]
        kind, pairs, states = judge_part(book, words, (0,))
        for more_pairs in [()] + [(pair,) for pair in pairs] + [pairs]:
            books = Books(few, book, words)
            fitting = books.are_fitting(more_pairs)
            books.pairs = more_pairs
            table = tuple(sorted(books.reachable(60)))
            wanted = fitting and all(books.is_good(state) for state in table)
            self.assertIs(part_holds(book, words, (0,), (kind, more_pairs, table)), wanted)
        everything = tuple(sorted(states + (((), (), ()),)))
        self.assertIs(part_holds(book, words, (0,), (kind, pairs, everything)), not faults_of_table(few, book, words, pairs, everything))
        for wrong in ((kind, pairs, states[1:]), (kind, pairs), (kind, pairs, states, ()), [kind, pairs, states], ("covered", pairs, states), ("lost", pairs, states),
                      (kind, states, pairs), (kind, pairs, states[::-1])):
            self.assertIs(part_holds(book, words, (0,), wrong), False)
        self.assertIs(part_holds(book, words, (1,), (kind, pairs, states)), False)
        self.assertIs(part_holds(book, words, (), (kind, pairs, states)), False)

    def test_lost_of_others(self):
        kind, sentence = judge_part(BOOK, AB, (0,))
        self.assertEqual((kind, sentence[1:3]), ("lost", (A, B)))
        through = ("sentence", A, B, (("axiom", 0), ("axiom", 1), ("chain", 0, 1)), (2, (("a", (1,)), ("c", (0, 1))), ()), 1)
        self.assertIs(part_holds(BOOK, AB, (0,), ("lost", through)), True)
        self.assertIs(part_holds(BOOK, AB, (1,), ("lost", through)), False)
        for wrong in (sentence, ("lost",), ("lost", sentence, ()), ["lost", sentence], ("enough", sentence), ("lost", None), ("lost", ()), ("lost", through[:5] + (0,)),
                      ("lost", ("covered", (), ())), ("lost", through[:2] + (C,) + through[3:]), ("lost", list(through)), ("lost",) + through):
            self.assertIs(part_holds(BOOK, AB, (0,), wrong), False)
        for part in all_parts(BOOK):
            if does_cover(part_book(BOOK, part), BOOK, AB):
                self.assertIs(part_holds(BOOK, AB, part, (kind, sentence)), False)

    def test_other_values(self):
        for thing in odd_values() + [(), ("enough",), ("lost",), ("enough", (), ()), ("lost", ())]:
            for part in ((), (0,), (0, 1, 2)):
                self.assertIs(part_holds(BOOK, AB, part, thing), False, thing)
                for more in (("enough", thing, ()), ("enough", (), thing), ("lost", thing), (thing, ()), (thing, (), ())):
                    self.assertIs(part_holds(BOOK, AB, part, more), False, more)

    def test_variants(self):
        for part in ((0,), (2,)):
            thing, right = judge_part(BOOK, AB, part), 0
            few = part_book(BOOK, part)
            for other in variants(thing):
                wanted = False
                if isinstance(other, tuple) and len(other) == 3 and other[0] == "enough":
                    wanted = not faults_of_table(few, BOOK, AB, *other[1:])
                elif isinstance(other, tuple) and len(other) == 2 and other[0] == "lost":
                    wanted = not faults_of_sentence(few, BOOK, AB, other[1], [ALL])
                right += wanted
                self.assertIs(part_holds(BOOK, AB, part, other), wanted, other)
            self.assertGreaterEqual(right, 1 if part == (0,) else 0)


class LeastTest(unittest.TestCase):

    def judged(self, book, vocabulary):
        found = judge_least(book, vocabulary)
        self.assertEqual((len(found), found[0], faults_of_least(book, vocabulary, found)), (5, "part", []))
        self.assertIs(least_holds(book, vocabulary, found), True)
        self.assertIs(least_holds(thing=found, vocabulary=vocabulary, book=book), True)
        self.assertEqual(judge_least(vocabulary=vocabulary, book=book), found)
        for loss, k in zip(found[4], found[1]):
            without = part_book(book, [j for j in found[1] if j != k])
            self.assertEqual(faults_of_cover(without, book, vocabulary, loss), [])
            self.assertIs(cover_holds(without, book, vocabulary, loss), True)
        return found[1]

    def test_least_parts(self):
        self.assertIn(self.judged(BOOK, AB), ((2,), (0, 1)))
        self.assertEqual(self.judged(BOOK[:2], AB), (0, 1))
        self.assertEqual(self.judged(BOOK, (("a", "b", "c"), ())), (0, 1))
        self.assertEqual(self.judged((), AB), ())
        self.assertEqual(self.judged(BOOK, EMPTY), ())
        self.assertEqual(self.judged(((A, A), (A, ALL), (B, A)), AB), (2,))
        self.assertIn(self.judged(((A, B), (A, B)), AB), ((0,), (1,)))
        self.assertIn(self.judged(((A, B), (B, A), (A, both(A, B))), AB), ((0, 1), (1, 2)))

    def test_needed(self):
        for book, vocabulary, wanted in ((BOOK, AB, ()), (BOOK[:2], AB, (0, 1)), (((A, B), (A, B)), AB, ()), (((A, B), (B, C), (A, B)), (("a", "b", "c"), ()), (1,)),
                                         ((), AB, ()), (BOOK, EMPTY, ()), (((A, B), (C, C)), AB, (0,)), (((A, ALL),), AB, ()), (BOOK, (("a", "b", "c"), ()), (0, 1))):
            self.assertEqual(needed(book, vocabulary), wanted)
            self.assertEqual(needed(vocabulary=vocabulary, book=book), wanted)

    def test_many_least_parts(self):
        source, sizes = random.Random(92), set()
        for _ in range(120):
            book, vocabulary = made(source), source.choice(VOCABULARIES)
            try:
                least = self.judged(book, vocabulary)
                self.assertTrue(set(needed(book, vocabulary)) <= set(least))
            except TooMany:
                continue
            sizes.add((len(book), len(least)))
        self.assertGreater(len(sizes), 8)

    def test_certificates_of_others(self):
        def certificate(positions, losses=None, table=None):
            few = part_book(BOOK, positions)
            found = [judge_cover(part_book(BOOK, [j for j in positions if j != k]), BOOK, AB) for k in positions] if losses is None else losses
            return ("part", positions) + (judge_cover(few, BOOK, AB)[1:3] if table is None else table) + (tuple(found),)
        for positions in all_parts(BOOK):
            wanted = positions in ((2,), (0, 1))
            self.assertIs(least_holds(BOOK, AB, certificate(positions)), wanted, positions)
        kind, positions, pairs, states, losses = certificate((0, 1))
        for wrong in ((kind, positions, pairs, states, losses[::-1]), (kind, positions, pairs, states, losses[:1]), (kind, positions, pairs, states, losses * 2),
                      (kind, positions, pairs, states, list(losses)), (kind, positions, pairs, states, ()), (kind, positions, pairs, states[1:], losses),
                      (kind, list(positions), pairs, states, losses), (kind, (False, True), pairs, states, losses), (kind, (1, 0), pairs, states, losses[::-1]),
                      (kind, (0, 2), pairs, states, losses), (kind, (0, 1, 3), pairs, states, losses * 2), (kind, positions, pairs, states), [kind, positions, pairs, states, losses],
                      (kind, positions, pairs, states, losses, ()), ("enough", positions, pairs, states, losses), (kind, positions, ((A, A),), states, losses),
                      (kind, positions, pairs, states, (losses[0], None)), (kind, positions, pairs, states, (losses[0], ("covered", pairs, states)))):
            self.assertIs(least_holds(BOOK, AB, wrong), False, wrong)
        self.assertIs(least_holds(BOOK[::-1], AB, (kind, positions, pairs, states, losses)), False)
        self.assertIs(least_holds(BOOK, (("a", "b", "c"), ()), (kind, positions, pairs, states, losses)), False)

    def test_losses_of_another_book(self):
        book = ((A, B), (B, A))
        kind, positions, pairs, states, losses = judge_least(book, AB)
        self.assertEqual(positions, (0, 1))
        other = judge_least(book[::-1], AB)
        self.assertIs(least_holds(book, AB, (kind, positions, pairs, states, other[4])), False)
        self.assertIs(least_holds(book[::-1], AB, (kind, positions, pairs, states, losses)), False)
        self.assertIs(least_holds(book[::-1], AB, other), True)

    def test_more_states_and_another_world(self):
        book = ((A, B),)
        kind, positions, pairs, states, losses = judge_least(book, AB)
        more = tuple(sorted(states + (((), (), ()),)))
        self.assertIs(least_holds(book, AB, (kind, positions, pairs, more, losses)), True)
        loss = losses[0][:4] + ((2, (("a", (1,)),), ()), 1)
        self.assertIs(least_holds(book, AB, (kind, positions, pairs, states, (loss,))), True)
        self.assertIs(least_holds(book, AB, (kind, positions, pairs, states, (loss[:5] + (0,),))), False)

    def test_variants(self):
        book = ((A, B),)
        thing, right = judge_least(book, AB), 0
        for other in variants(thing):
            wanted = is_least(book, AB, other)
            right += wanted
            self.assertIs(least_holds(book, AB, other), wanted, other)
        self.assertGreater(right, 0)

    def test_other_values(self):
        table = judge_cover(BOOK, BOOK, AB)
        for thing in odd_values() + [(), ("part",), ("part", (), (), (), ()), ("part", (0,), (), (), ())]:
            self.assertIs(least_holds(BOOK, AB, thing), False, thing)
            for more in (("part", thing) + table[1:] + ((),), ("part", (), thing, (), ()), ("part", (), (), thing, ()), ("part", (2,)) + table[1:] + (thing,),
                         ("part", (2,)) + table[1:] + ((thing,),), (thing, (), (), (), ())):
                self.assertIs(least_holds(BOOK, AB, more), False, more)


class WrongArgumentsTest(unittest.TestCase):

    def test_the_first_wrong_one(self):
        one, two, three, four = [1], [2], [3], [4]
        for function, names, after in ((book_of, ("book", "part"), ()), (is_part, ("book",), ("thing",)), (judge_part, ("book", "vocabulary", "part"), ()),
                                       (part_holds, ("book", "vocabulary", "part"), ("thing",)), (judge_least, ("book", "vocabulary"), ()),
                                       (least_holds, ("book", "vocabulary"), ("thing",)), (needed, ("book", "vocabulary"), ())):
            wrong = dict(zip(names, (one, two, three)), **{name: four for name in after})
            for k, name in enumerate(names):
                error = {"book": BadBook, "vocabulary": BadVocabulary, "part": BadPart}[name]
                right = {"book": BOOK, "vocabulary": AB, "part": (0,)}
                arguments = {**wrong, **{known: right[known] for known in names[:k]}}
                for call in (lambda: function(*arguments.values()), lambda: function(**dict(reversed(arguments.items())))):
                    with self.assertRaises(error) as caught:
                        call()
                    self.assertIs(caught.exception.thing, wrong[name])

    def test_what_is_passed_stays_and_answers_repeat(self):
        for thing in (["part", [0], [], [], []], ("lost", [["sentence"]]), ("enough", [], [[]])):
            before = copy.deepcopy(thing)
            self.assertIs(least_holds(BOOK, AB, thing), False)
            self.assertIs(part_holds(BOOK, AB, (0,), thing), False)
            self.assertIs(is_part(BOOK, thing), False)
            self.assertEqual(thing, before)
        source = random.Random(93)
        for _ in range(20):
            arguments = (made(source), source.choice(VOCABULARIES))
            before = copy.deepcopy(arguments)
            for function in (judge_least, needed):
                try:
                    self.assertEqual(function(*arguments), function(*copy.deepcopy(arguments)))
                except TooMany:
                    self.assertRaises(TooMany, function, *copy.deepcopy(arguments))
            self.assertEqual(arguments, before)

    def test_defined_in_the_file(self):
        for name in ("is_part", "book_of", "judge_part", "part_holds", "judge_least", "least_holds", "needed"):
            self.assertEqual(getattr(parts_module, name).__module__, "tellalike.parts")


class LimitsTest(unittest.TestCase):

    def test_too_many(self):
        book = read_book("each x is some r x\neach x is some r a\neach a is some r b\neach b is some r c\neach c is some r d")
        with self.assertRaises(TooMany) as caught:
            judge_part(book, ((), ("r",)), (1, 2, 3, 4))
        self.assertEqual(caught.exception.bound, 3)
        self.assertRaises(TooMany, needed, book, ((), ("r",)))
        self.assertIn(judge_part(book, (("a",), ()), (1, 2, 3, 4))[0], ("enough", "lost"))

    def test_books_at_the_limits(self):
        source, slowest, kinds = random.Random(94), 0, set()
        for k in range(30):
            book = made_book(source, 6, 5, names="abcdef", odd=(0.02, 0.1)[k % 2])
            for vocabulary in ((("a", "b", "c", "d"), ("r", "s")), (("a", "b"), ("r",)), (("a", "b", "c", "d"), ())):
                begin = time.perf_counter()
                try:
                    found = judge_least(book, vocabulary)
                    kinds.add(len(found[1]))
                    self.assertIs(least_holds(book, vocabulary, found), True)
                    needed(book, vocabulary)
                except TooMany as error:
                    kinds.add(error.bound)
                slowest = max(slowest, time.perf_counter() - begin)
        self.assertLess(slowest, 1.5)
        self.assertTrue({1, 2, 40} <= kinds, kinds)


if __name__ == "__main__":
    unittest.main()
