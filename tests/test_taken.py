"""tellalike.taken: books in the words of a vocabulary that are taken out of a book."""

import copy
import random
import time
import unittest

from certificates import faults_of_sentence, faults_of_taken
from oracles import made_book, told_by_words
from samples import A, ALL, B, C, NONE, both, odd_values, some, variants
from test_data import made_data
from tellalike import taken as taken_module
from tellalike.concepts import is_book, is_in, read_book
from tellalike.covering import cover_holds, does_cover, judge_cover
from tellalike.data import does_tell_of, things_of
from tellalike.errors import BadBook, BadNumber, BadVocabulary, TooMany
from tellalike.lines import lines_hold
from tellalike.taken import is_taken_out, take_out, taken_holds
from tellalike.telling import does_tell, judge_told

BOOK, AB = ((A, C), (C, B)), (("a", "b"), ())
EMPTY = ((), ())
VOCABULARIES = (AB, (("a", "b"), ("r",)), (("a",), ("r",)), ((), ("r", "s")), (("a", "b", "d"), ()), EMPTY)
NO_NUMBERS = [True, False, -1, -2, -10 ** 39, None, "", "0", "1", (), (0,), [], [0], {}, {0: 0}, ALL, BOOK]


def told_lines(book, *sentences):
    return tuple(judge_told(book, *sentence)[1] for sentence in sentences)


def is_taken(book, vocabulary, k, thing):
    """Whether any value is a certificate of [11.2], slowly."""
    if not isinstance(thing, tuple) or not thing or (thing[0], len(thing)) not in (("whole", 5), ("rest", 4)):
        return False
    return not faults_of_taken(book, vocabulary, k, thing)


class TakenOutTest(unittest.TestCase):

    def test_the_example(self):
        self.assertIs(is_taken_out(BOOK, AB, ((A, B),)), True)
        self.assertIs(is_taken_out(BOOK, AB, ((B, A),)), False)
        self.assertIs(is_taken_out(BOOK, AB, ((A, C),)), False)
        self.assertEqual(take_out(BOOK, AB, 0)[:2], ("rest", ()))
        self.assertEqual(take_out(BOOK, AB, 2)[0], "whole")

    def test_taken_out(self):
        for thing, wanted in (((), True), (((A, B),), True), (((A, B),) * 3, True), (((A, both(A, B)), (B, B), (NONE, A), (A, ALL)), True), (((A, B), (B, A)), False),
                              (((A, some("r", ALL)),), False), (((some("r", A), some("r", B)),), False), ((A, B), False), ([(A, B)], False), (([A, B],), False), (((A, B, B),), False)):
            self.assertIs(is_taken_out(BOOK, AB, thing), wanted, thing)
            self.assertIs(is_taken_out(thing=thing, vocabulary=AB, book=BOOK), wanted)
        self.assertIs(is_taken_out(BOOK, (("a", "b"), ("r",)), ((some("r", A), some("r", B)),)), True)
        for thing in odd_values():
            self.assertIs(is_taken_out(BOOK, AB, thing), False, thing)
            self.assertIs(is_taken_out(BOOK, AB, (thing,)), False, thing)
            self.assertIs(is_taken_out(BOOK, AB, ((A, thing),)), False, thing)

    def test_drawn_books(self):
        source, answers = random.Random(101), {True: 0, False: 0}
        for _ in range(800):
            book, thing = made_book(source, 3, 3), made_book(source, source.randint(0, 2), 2, names="ab", roles="r")
            wanted = all(is_in(side, (("a", "b"), ("r",))) for axiom in thing for side in axiom) and all(told_by_words(book, *axiom) for axiom in thing)
            answers[wanted] += 1
            self.assertIs(is_taken_out(book, (("a", "b"), ("r",)), thing), wanted)
        self.assertGreater(min(answers.values()), 100)


class TakeOutTest(unittest.TestCase):

    def judged(self, book, vocabulary, k):
        found = take_out(book, vocabulary, k)
        self.assertEqual((len(found), faults_of_taken(book, vocabulary, k, found)), ({"whole": 5, "rest": 4}[found[0]], []))
        self.assertIs(taken_holds(book, vocabulary, k, found), True)
        self.assertIs(taken_holds(thing=found, k=k, vocabulary=vocabulary, book=book), True)
        self.assertEqual(take_out(k=k, vocabulary=vocabulary, book=book), found)
        self.assertIs(is_taken_out(book, vocabulary, found[1]), True)
        for axiom, lines in zip(*found[1:3]):
            self.assertIs(lines_hold(book, *axiom, lines), True)
        last = ("covered",) + found[3:] if found[0] == "whole" else found[3]
        self.assertIs(cover_holds(found[1], book, vocabulary, last), True)
        return found[0], len(found[1])

    def test_numbers(self):
        self.assertEqual([self.judged(BOOK, AB, k) for k in range(6)], [("rest", 0)] + [("whole", 1)] * 5)
        self.assertEqual(self.judged((), AB, 0), ("whole", 0))
        self.assertEqual(self.judged(BOOK, EMPTY, 0), ("whole", 0))
        self.assertEqual(self.judged(BOOK, EMPTY, 3), ("whole", 0))
        four = read_book("each a is b\neach b is c\neach c is d\neach (a and d) is none")
        found = [self.judged(four, (("a", "b", "c", "d"), ()), k) for k in range(5)]
        self.assertEqual([kind for kind, _ in found][:2], ["rest", "rest"])
        self.assertEqual(found[4][0], "whole")
        self.assertEqual(self.judged(BOOK, AB, 10 ** 39), ("whole", 1))

    def test_no_whole_one(self):
        """Each a is a some r to a some r .., without end, and no name in the words is in all of these."""
        book = read_book("each a is some r x\neach x is some r x")
        self.assertEqual([self.judged(book, (("a",), ("r",)), k) for k in range(3)], [("rest", 0), ("rest", 1), ("rest", 2)])
        words = (("a", "x"), ("r",))
        self.judged(book, words, 4)
        whole = ("whole", book, told_lines(book, *book)) + judge_cover(book, book, words)[1:]
        self.assertIs(taken_holds(book, words, 2, whole), True)
        self.assertIs(taken_holds(book, words, 1, whole), False)
        endless = read_book("each (x and b) is a\neach some r x is x\neach a is x\neach b is b")
        for k in range(3):
            self.assertEqual(self.judged(endless, (("a", "b"), ("r",)), k), ("rest", k))

    def test_many_books(self):
        source, kinds = random.Random(102), {}
        for _ in range(250):
            book, vocabulary, k = made_book(source, source.randint(1, 4), 3, names="abcd", odd=0.04), source.choice(VOCABULARIES), source.randint(0, 4)
            try:
                found = self.judged(book, vocabulary, k)
            except TooMany:
                continue
            kinds[found] = kinds.get(found, 0) + 1
        for key in (("whole", 0), ("whole", 1), ("rest", 0), ("rest", 1), ("whole", 2)):
            self.assertIn(key, kinds)

    def test_what_a_whole_one_tells_of_drawn_data(self):
        """[11.3]: of each thing just what the book tells, and for smaller vocabularies the book is covered, too."""
        source, told = random.Random(103), 0
        for _ in range(120):
            book, vocabulary = made_book(source, 3, 3, names="abc", odd=0.04), (("a", "b"), ("r",))
            try:
                found = take_out(book, vocabulary, 4)
            except TooMany:
                continue
            if found[0] == "rest":
                continue
            for few in ((("a", "b"), ()), (("b",), ("r",)), EMPTY):
                self.assertIs(does_cover(found[1], book, few), True)
                self.assertIs(does_cover(book, found[1], few), True)
            for _ in range(6):
                data, concept = made_data(source, "xy", 4, "ab", "r"), source.choice([A, B, NONE, some("r", B), both(A, some("r", A)), some("r", some("r", ALL))])
                x = source.choice(things_of(data))
                try:
                    answers = does_tell_of(book, data, x, concept), does_tell_of(found[1], data, x, concept)
                except TooMany:
                    continue
                self.assertEqual(answers[0], answers[1])
                told += answers[0]
        self.assertGreater(told, 50)


class CertificatesOfOthersTest(unittest.TestCase):

    def holds(self, k, thing, book=BOOK, vocabulary=AB):
        wanted = is_taken(book, vocabulary, k, thing)
        self.assertIs(taken_holds(book, vocabulary, k, thing), wanted, thing)
        return wanted

    def whole(self, *axioms, book=BOOK, vocabulary=AB):
        return ("whole", axioms, told_lines(book, *axioms)) + judge_cover(axioms, book, vocabulary)[1:3]

    def test_whole(self):
        ab = (A, B)
        for axioms, least in (((ab,), 1), ((ab, ab), 2), ((ab, (A, A), (B, ALL)), 3), (((NONE, A), ab), 2), (((A, both(B, A)),), 1), ((((A, both(B, ALL))),) * 4, 4)):
            for k in range(5):
                self.assertIs(self.holds(k, self.whole(*axioms)), k >= least)
        self.assertIs(self.holds(4, self.whole((A, A))), False)
        self.assertIs(self.holds(4, self.whole()), False)
        kind, axioms, reasons, pairs, states = self.whole(ab, (A, A))
        for wrong in ((kind, axioms, reasons[::-1], pairs, states), (kind, axioms, reasons[:1], pairs, states), (kind, axioms, reasons * 2, pairs, states),
                      (kind, axioms, list(reasons), pairs, states), (kind, list(axioms), reasons, pairs, states), (kind, axioms[::-1], reasons, pairs, states),
                      (kind, axioms, (reasons[0], ()), pairs, states), (kind, axioms, (reasons[0], None), pairs, states), (kind, axioms, reasons, pairs, states[1:]),
                      (kind, axioms, reasons, pairs), ("rest", axioms, reasons, pairs, states), [kind, axioms, reasons, pairs, states], (kind, axioms, reasons, states, pairs),
                      (kind, axioms, (reasons[0] + (("same", C),), reasons[1]), pairs, states), (kind, axioms, reasons, pairs, states, ())):
            self.assertIs(self.holds(4, wrong), False)
        longer = (("same", C),) + tuple(("axiom", 0) if line == ("axiom", 0) else line for line in (("axiom", 0), ("axiom", 1), ("chain", 1, 2)))
        self.assertIs(self.holds(4, (kind, axioms, (longer, reasons[1]), pairs, states)), True)
        self.assertIs(self.holds(4, (kind, axioms, reasons, pairs, tuple(sorted(states + (((), (), ()),))))), True)

    def test_axioms_outside_of_the_vocabulary_and_not_told(self):
        for axioms in (((A, C), (C, B)), ((A, B), (A, C)), ((A, B), (some("r", A), ALL))):
            self.assertIs(self.holds(4, self.whole(*axioms)), False)
        lines = told_lines(BOOK, (A, B))
        self.assertIs(self.holds(4, ("whole", ((A, B), (B, A)), lines + ((("same", B),),)) + judge_cover(((A, B), (B, A)), BOOK, AB)[1:]), False)

    TWO = ((A, B), (B, A))

    def rest(self, *axioms):
        return ("rest", axioms, told_lines(self.TWO, *axioms), judge_cover(axioms, self.TWO, AB))

    def test_rest(self):
        for axioms, wanted in (((), True), (((A, B),), True), (((B, A),), True), (((A, both(A, B)),), True), (((A, A),), False), (((A, B), (A, B)), False),
                               (((A, B), (A, both(A, B))), False), (((A, both(A, B)), (A, B)), False), (((A, B), (both(A, B), A)), False), (((A, ALL), (B, A)), False)):
            for k in range(5):
                self.assertIs(self.holds(k, self.rest(*axioms), book=self.TWO), wanted and k == len(axioms), (axioms, k))
        # "whole" does not forbid what the axioms before tell.
        self.assertIs(self.holds(3, self.whole((A, A), (A, B), (A, B))), True)

    def test_both_kinds_are_right(self):
        whole, rest = self.whole((A, B), book=((A, B),)), self.rest((A, both(A, B)))
        self.assertIs(self.holds(1, rest, book=self.TWO), True)
        both_ways = self.whole(*self.TWO, book=self.TWO)
        self.assertIs(self.holds(2, both_ways, book=self.TWO), True)
        self.assertIs(self.holds(1, ("whole", ((A, B),), whole[2]) + whole[3:], book=((A, B),)), True)
        equal = read_book("each (a and b) is c\neach a is b\neach b is a")
        words = (("a", "b", "c"), ())
        short = ((A, both(B, C)), (B, A))
        self.assertIs(self.holds(2, self.whole(*short, book=equal, vocabulary=words), equal, words), True)
        weak = ((A, B), (B, A))
        rest = ("rest", weak, told_lines(equal, *weak), judge_cover(weak, equal, words))
        self.assertIs(self.holds(2, rest, equal, words), True)

    def test_other_sentences(self):
        kind, axioms, reasons, sentence = self.rest((A, B))
        self.assertEqual(sentence[1:3], (B, A))
        wider = ("sentence", B, A, (("same", C), ("axiom", 1)), (3, (("b", (0, 2)),), ()), 2)
        self.assertIs(self.holds(1, (kind, axioms, reasons, wider), book=self.TWO), True)
        for wrong in (wider[:5] + (1,), wider[:4] + ((3, (("a", (0, 2)), ("b", (0, 2))), ()), 2), wider[:3] + ((("axiom", 0),),) + wider[4:], ("sentence", A, B) + wider[3:], None, (),
                      ("covered", (), ()), list(wider)):
            self.assertIs(self.holds(1, (kind, axioms, reasons, wrong), book=self.TWO), False)
        for wrong in ((kind, axioms, (), sentence), (kind, axioms, reasons * 2, sentence), (kind, axioms, ((),), sentence), (kind, axioms, reasons), [kind, axioms, reasons, sentence],
                      (kind, axioms, reasons, sentence, ()), (kind, axioms, reasons, sentence, (), ()), ("whole", axioms, reasons, sentence), (kind, axioms, told_lines(self.TWO, (B, A)), sentence)):
            self.assertIs(self.holds(1, wrong, book=self.TWO), False)
        self.assertEqual(faults_of_sentence(axioms, self.TWO, AB, sentence, [ALL]), [])

    def test_variants(self):
        for book, k in ((BOOK, 1), (BOOK, 0), (self.TWO, 1)):
            thing, right = take_out(book, AB, k), 0
            for other in variants(thing):
                right += self.holds(k, other, book=book)
            self.assertGreater(right, 0)

    def test_other_values(self):
        for thing in odd_values() + [(), ("whole",), ("rest",), ("whole", (), (), (), ()), ("rest", (), (), ())]:
            for k in (0, 1, 4):
                self.assertIs(taken_holds(BOOK, AB, k, thing), False, thing)
                for more in (("whole", thing, (), (), ()), ("whole", (), thing, (), ()), ("whole", (), (), thing, ()), ("whole", (), (), (), thing), ("rest", thing, (), ()),
                             ("rest", (), thing, ()), ("rest", (), (), thing), (thing, (), (), ()), ("rest", ((A, B),), (thing,), ()), ("whole", (thing,), ((),), (), ())):
                    self.assertIs(taken_holds(BOOK, AB, k, more), False, more)


class WrongArgumentsTest(unittest.TestCase):

    def test_no_numbers(self):
        for thing in NO_NUMBERS + [thing for thing in odd_values() if type(thing) is not int or thing < 0]:
            for call in (lambda: take_out(BOOK, AB, thing), lambda: taken_holds(BOOK, AB, thing, None), lambda: taken_holds(BOOK, AB, thing, take_out(BOOK, AB, 1)),
                         lambda: take_out(k=thing, vocabulary=AB, book=BOOK), lambda: taken_holds(thing=(), k=thing, vocabulary=AB, book=BOOK)):
                with self.assertRaises(BadNumber) as caught:
                    call()
                self.assertIs(caught.exception.thing, thing)

    def test_the_first_wrong_one(self):
        one, two, three, four = [1], [2], [3], [4]
        for function, names, after in ((is_taken_out, ("book", "vocabulary"), ("thing",)), (take_out, ("book", "vocabulary", "k"), ()),
                                       (taken_holds, ("book", "vocabulary", "k"), ("thing",))):
            wrong = dict(zip(names, (one, two, three)), **{name: four for name in after})
            for at, name in enumerate(names):
                error = {"book": BadBook, "vocabulary": BadVocabulary, "k": BadNumber}[name]
                right = {"book": BOOK, "vocabulary": AB, "k": 1}
                arguments = {**wrong, **{known: right[known] for known in names[:at]}}
                for call in (lambda: function(*arguments.values()), lambda: function(**dict(reversed(arguments.items())))):
                    with self.assertRaises(error) as caught:
                        call()
                    self.assertIs(caught.exception.thing, wrong[name])

    def test_what_is_passed_stays_and_answers_repeat(self):
        for thing in (["whole", [], [], [], []], ("rest", [[A, B]], [[]], []), ("whole", ([A, B],), (), (), ())):
            before = copy.deepcopy(thing)
            self.assertIs(taken_holds(BOOK, AB, 1, thing), False)
            self.assertIs(is_taken_out(BOOK, AB, thing), False)
            self.assertEqual(thing, before)
        source = random.Random(104)
        for _ in range(20):
            arguments = (made_book(source, 3, 3), source.choice(VOCABULARIES), source.randint(0, 4))
            before = copy.deepcopy(arguments)
            try:
                self.assertEqual(take_out(*arguments), take_out(*copy.deepcopy(arguments)))
            except TooMany:
                self.assertRaises(TooMany, take_out, *copy.deepcopy(arguments))
            self.assertEqual(arguments, before)

    def test_defined_in_the_file(self):
        for name in ("is_taken_out", "take_out", "taken_holds"):
            self.assertEqual(getattr(taken_module, name).__module__, "tellalike.taken")


class LimitsTest(unittest.TestCase):

    def test_books_at_the_limits(self):
        source, slowest, kinds = random.Random(105), 0, set()
        for k in range(40):
            book = made_book(source, 6, 5, names="abcdef", odd=(0.02, 0.1)[k % 2])
            for vocabulary in ((("a", "b", "c", "d"), ("r", "s")), (("a", "b"), ("r",)), (("a", "b", "c", "d"), ())):
                begin = time.perf_counter()
                try:
                    found = take_out(book, vocabulary, 4)
                    kinds.add(found[0])
                    self.assertIs(taken_holds(book, vocabulary, 4, found), True)
                    self.assertIs(is_book(found[1]) and all(does_tell(book, *axiom) for axiom in found[1]), True)
                except TooMany as error:
                    kinds.add(error.bound)
                slowest = max(slowest, time.perf_counter() - begin)
        self.assertLess(slowest, 1)
        self.assertTrue({"whole", 40} <= kinds, kinds)


if __name__ == "__main__":
    unittest.main()
