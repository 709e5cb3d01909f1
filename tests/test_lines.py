"""tellalike.lines: the rules of derivations, and the sentences of their lines."""

import copy
import random
import time
import unittest

from oracles import concept_of_size, made_book, sentences_by_words, size_by_words
from samples import A, ALL, B, C, NONE, both, odd_values, some, variants
from tellalike import lines as module
from tellalike.concepts import is_concept, is_word, size
from tellalike.errors import BadBook, BadConcept, BadLines
from tellalike.lines import are_lines, lines_hold, sentences_of

BOOK = ((A, B), (B, some("r", C)), (some("r", ALL), A))
CONCEPTS = {"same": 1, "all": 1, "none": 1, "left": 2, "right": 2}


def lines_by_words(book, thing):
    """The sentences of any value as lines; None if it is not lines."""
    if not isinstance(thing, tuple):
        return None
    lengths = {"axiom": 2, "both": 3, "chain": 3, "lift": 3, "void": 2}
    for line in thing:
        if not isinstance(line, tuple) or not line or not isinstance(line[0], str):
            return None
        if line[0] in CONCEPTS:
            if len(line) != 1 + CONCEPTS[line[0]] or not all(map(is_concept, line[1:])):
                return None
        elif len(line) != lengths.get(line[0]) or line[0] in ("lift", "void") and not is_word(line[1]):
            return None
    return sentences_by_words(book, thing)


def doubled(many):
    """Lines whose last right concept has just this size, from 2 on: ones that double, and ones that join these."""
    lines, at = [("same", A)], {0: 0}
    for k in range(1, many.bit_length()):
        lines.append(("both", at[k - 1], at[k - 1]))
        at[k] = len(lines) - 1
    powers = [k for k in range(many.bit_length()) if many >> k & 1]
    last = at[powers[-1]]
    for k in powers[:-1]:
        lines.append(("both", last, at[k]))
        last = len(lines) - 1
    return tuple(lines)


class RulesTest(unittest.TestCase):

    def assert_sentences(self, lines, *wanted, book=BOOK):
        """The last lines have the wanted sentences."""
        found = sentences_of(book, lines)
        self.assertIsInstance(found, tuple)
        self.assertEqual(len(found), len(lines))
        self.assertEqual(found[len(found) - len(wanted):], wanted)
        self.assertEqual(list(found), lines_by_words(book, lines))
        self.assertIs(are_lines(book, lines), True)
        self.assertIs(lines_hold(book, *wanted[-1], lines), True)

    def assert_no_lines(self, *wrong, book=BOOK):
        for thing in wrong:
            self.assertIs(are_lines(book, thing), False, thing)
            self.assertIs(lines_hold(book, A, A, thing), False, thing)
            with self.assertRaises(BadLines) as caught:
                sentences_of(book, thing)
            self.assertIs(caught.exception.thing, thing)

    def test_the_example(self):
        book = ((A, some("r", B)),)
        lines = (("axiom", 0), ("all", B), ("lift", "r", 1), ("chain", 0, 2))
        self.assertEqual(sentences_of(book, lines)[2:], ((some("r", B), some("r", ALL)), (A, some("r", ALL))))
        self.assertIs(lines_hold(book, A, some("r", ALL), lines), True)
        self.assertIs(are_lines(book, (("chain", 0, 0),)), False)

    def test_rules_with_concepts(self):
        d = both(A, some("r", NONE))
        self.assert_sentences((("same", d),), (d, d))
        self.assert_sentences((("all", d),), (d, ALL))
        self.assert_sentences((("none", d),), (NONE, d))
        self.assert_sentences((("left", d, B),), (both(d, B), d))
        self.assert_sentences((("right", d, B),), (both(d, B), B))
        self.assert_sentences((("same", ALL), ("none", NONE)), (ALL, ALL), (NONE, NONE))

    def test_what_is_no_concept_there(self):
        for thing in odd_values() + [(), both(A, ["all"]), "a", BOOK]:
            for kind in ("same", "all", "none"):
                self.assert_no_lines(((kind, thing),))
            for kind in ("left", "right"):
                self.assert_no_lines(((kind, thing, A),), ((kind, A, thing),))

    def test_axioms(self):
        for j, axiom in enumerate(BOOK):
            self.assert_sentences((("axiom", j),), axiom)
        for j in (3, -1, True, False, None, "0", (0,), [0], 10 ** 39, A, ()):
            self.assert_no_lines((("axiom", j),), (("same", A), ("axiom", j)))
        self.assert_no_lines((("axiom", 0),), book=())
        self.assert_sentences((("axiom", 1),), (B, A), book=((A, B), (B, A)))

    def test_both(self):
        start = (("axiom", 0), ("all", A), ("same", B))
        self.assert_sentences(start + (("both", 0, 1),), (A, both(B, ALL)))
        self.assert_sentences(start + (("both", 1, 0),), (A, both(ALL, B)))
        self.assert_sentences(start + (("both", 0, 0),), (A, both(B, B)))
        self.assert_no_lines(start + (("both", 0, 2),), start + (("both", 2, 1),), start + (("both", 0, 3),))

    def test_both_needs_equal_left_concepts_however_they_came(self):
        left = both(A, B)
        lines = (("left", A, B), ("same", left), ("right", A, B), ("both", 0, 1), ("both", 3, 2))
        self.assert_sentences(lines, (left, both(both(A, left), B)))
        self.assert_no_lines((("left", A, B), ("left", B, A), ("both", 0, 1)))

    def test_chain(self):
        start = (("axiom", 0), ("axiom", 1), ("all", A))
        self.assert_sentences(start + (("chain", 0, 1),), (A, some("r", C)))
        self.assert_sentences(start + (("same", A), ("chain", 3, 2)), (A, ALL))
        self.assert_sentences(start + (("same", A), ("chain", 3, 3)), (A, A))
        self.assert_no_lines(start + (("chain", 1, 0),), start + (("chain", 0, 2),), start + (("chain", 0, 0),))

    def test_lift_and_void(self):
        self.assert_sentences((("axiom", 0), ("lift", "s", 0)), (some("s", A), some("s", B)))
        self.assert_sentences((("axiom", 1), ("lift", "r", 0), ("lift", "a", 1)),
                              (some("a", some("r", B)), some("a", some("r", some("r", C)))))
        self.assert_sentences((("void", "r"),), (some("r", NONE), NONE))
        self.assert_sentences((("void", "s"), ("lift", "r", 0)), (some("r", some("s", NONE)), some("r", NONE)))
        for word in ("all", "is", "", "R", "abcdefghijk", None, 0, True, ("r",), ["r"], A, "r\n"):
            self.assert_no_lines((("void", word),), (("same", A), ("lift", word, 0)))

    def test_positions(self):
        start = (("same", A), ("same", A))
        for wrong in (2, 3, -1, -2, True, False, None, "0", (0,), [0], 10 ** 39, A):
            for line in (("both", wrong, 0), ("both", 0, wrong), ("chain", wrong, 0), ("chain", 0, wrong), ("lift", "r", wrong)):
                self.assert_no_lines(start + (line,), start + (line, ("same", A)), (line,) + start)
        self.assert_sentences(start + (("chain", 1, 0),), (A, A))
        self.assert_no_lines((("both", 0, 0),), (("lift", "r", 0),), (("chain", 0, 0),))

    def test_forms(self):
        right = (("axiom", 0), ("axiom", 1), ("chain", 0, 1), ("left", A, B), ("lift", "r", 3), ("void", "r"), ("all", C))
        self.assert_sentences(right, (both(A, B), A), (some("r", both(A, B)), some("r", A)), (some("r", NONE), NONE), (C, ALL))
        for k, line in enumerate(right):
            for other in (list(line), line[:-1], line + (0,), line + (A,), (line,), line[:1], (), None, line[0], ("x",) + line[1:],
                          (line[0].upper(),) + line[1:], (None,) + line[1:], ([line[0]],) + line[1:], ((line[0],),) + line[1:]):
                self.assert_no_lines(right[:k] + (other,) + right[k + 1:])
        self.assert_no_lines(list(right), [], {}, None, True, 0, "", "same", ("same", A), A, {0: right[0]}, (right,))

    def test_kinds_are_not_mixed_up(self):
        wrong = [("axiom",), ("same", 0), ("all", 0), ("left", A), ("both", A, B), ("chain", A, B), ("lift", 0, "r"), ("void", 0),
                 ("none",), ("all",), A, NONE, ALL, both(A, B), some("r", A), ("void", "r", 0), ("void",)]
        for line in wrong:
            self.assert_no_lines((("same", A), line))

    def test_no_lines_at_all(self):
        self.assertIs(are_lines(BOOK, ()), True)
        self.assertEqual(sentences_of(BOOK, ()), ())
        self.assertIs(are_lines((), ()), True)
        for left, right in BOOK + ((A, A), (NONE, NONE)):
            self.assertIs(lines_hold(BOOK, left, right, ()), False)

    def test_only_the_last_line_counts(self):
        lines = (("axiom", 0), ("axiom", 1), ("all", C))
        self.assertIs(lines_hold(BOOK, A, B, lines), False)
        self.assertIs(lines_hold(BOOK, B, some("r", C), lines), False)
        self.assertIs(lines_hold(BOOK, C, ALL, lines), True)
        self.assertIs(lines_hold(BOOK, ALL, C, lines), False)
        self.assertIs(lines_hold(BOOK, A, B, lines[:1]), True)
        self.assertIs(lines_hold(BOOK, A, C, lines[:1]), False)
        self.assertIs(lines_hold(BOOK, C, B, lines[:1]), False)

    def test_any_value(self):
        for thing in odd_values():
            self.assert_no_lines(thing, (thing,), (("same", A), thing), [thing])


class SizesTest(unittest.TestCase):

    def test_up_to_the_bound(self):
        for many in (2, 3, 7, 100, 49999, 50000):
            lines = doubled(many)
            self.assertIs(are_lines((), lines), True, many)
            left, right = sentences_of((), lines)[-1]
            self.assertEqual((left, size(right)), (A, many))
        for many in (50001, 50002, 65536, 99999):
            lines = doubled(many)
            self.assertIs(are_lines((), lines), False, many)
            with self.assertRaises(BadLines) as caught:
                sentences_of((), lines)
            self.assertIs(caught.exception.thing, lines)

    def test_the_sentence_of_the_greatest_lines(self):
        lines = doubled(50000)
        right = sentences_of((), lines)[-1][1]
        self.assertIs(lines_hold((), A, right, lines), True)
        self.assertIs(lines_hold((), B, right, lines), False)
        self.assertIs(lines_hold((), A, both(right[1], right[1]), lines), False)

    def test_a_lift_adds_one(self):
        for many, wanted in ((49998, True), (49999, True), (50000, False)):
            lines = doubled(many)
            self.assertIs(are_lines((), lines + (("lift", "r", len(lines) - 1),)), wanted)

    def test_each_line_counts_also_one_that_is_not_used(self):
        big = doubled(40000)
        self.assertIs(are_lines((), big + (("both", len(big) - 1, len(big) - 1), ("same", A))), False)
        self.assertIs(are_lines((), big + (("same", A),)), True)

    def test_left_concepts_are_not_bounded(self):
        right = sentences_of((), doubled(50000))[-1][1]
        self.assertEqual(sentences_of((), (("left", A, right),)), ((both(A, right), A),))
        self.assertIs(are_lines((), (("right", A, right),)), True)
        self.assertIs(are_lines((), (("left", right, right), ("lift", "r", 0))), False)
        self.assertIs(are_lines((), (("all", both(right, right)), ("lift", "r", 0))), True)
        self.assertIs(are_lines((), (("same", both(A, right)),)), False)
        self.assertIs(are_lines((), (("none", some("r", right)),)), False)

    def test_doubling_is_fast(self):
        lines = doubled(50000)
        many = lines + tuple(("both", k % len(lines), k % len(lines)) for k in range(14)) + (("same", B),) * 150
        endless = (("same", A),) + tuple(("both", k, k) for k in range(199))
        begin = time.perf_counter()
        self.assertIs(are_lines((), many), True)
        self.assertIs(are_lines((), endless), False)
        self.assertIs(lines_hold((), A, A, endless), False)
        self.assertRaises(BadLines, sentences_of, (), endless)
        self.assertLess(time.perf_counter() - begin, 0.5)

    def test_deep_ones(self):
        lines = (("axiom", 0),) + tuple(("lift", "r", k) for k in range(199))
        left, right = sentences_of(BOOK, lines)[-1]
        self.assertEqual((size(left), size(right)), (200, 200))
        self.assertIs(lines_hold(BOOK, left, right, lines), True)
        self.assertIs(lines_hold(BOOK, right, left, lines), False)
        self.assertIs(lines_hold(BOOK, left, left, lines), False)
        more = lines + (("same", right), ("chain", 199, 200), ("both", 201, 199))
        self.assertEqual(sentences_of(BOOK, more)[-1], (left, both(right, right)))


class ManyLinesTest(unittest.TestCase):

    def made_lines(self, source, book, many):
        """Lines of all kinds; most of them fit."""
        lines, found = [], []
        while len(lines) < many:
            at = [source.randrange(len(lines) + 1) for _ in range(2)]
            c, d = (concept_of_size(source, source.randint(1, 3), "ab", "r") for _ in range(2))
            line = source.choice([
                ("same", c), ("all", c), ("none", d), ("left", c, d), ("right", c, d), ("axiom", at[0]), ("void", "r"),
                ("both", *at), ("chain", *at), ("lift", "r", at[0]), ("both", *at), ("chain", *at), ("chain", *at),
            ])
            grown = sentences_by_words(book, lines + [line])
            if grown is not None or source.random() < 0.002:
                lines.append(line)
                found = grown
            if found is None:
                break
        return tuple(lines), found

    def test_many_lines(self):
        source, wrong = random.Random(7), 0
        for _ in range(150):
            book = made_book(source, 3, 3, names="ab", roles="r")
            lines, wanted = self.made_lines(source, book, 12)
            self.assertIs(are_lines(book, lines), wanted is not None)
            if wanted is None:
                wrong += 1
                self.assertRaises(BadLines, sentences_of, book, lines)
            else:
                self.assertEqual(sentences_of(book, lines), tuple(wanted))
                self.assertIs(lines_hold(book, *wanted[-1], lines), True)
                self.assertIs(lines_hold(book, *wanted[0], lines), wanted[0] == wanted[-1])
                self.assertTrue(all(size_by_words(right) <= 50000 for _, right in wanted))
        self.assertGreater(wrong, 3)

    def test_variants(self):
        lines = (("axiom", 0), ("axiom", 1), ("chain", 0, 1), ("left", A, B), ("lift", "r", 3), ("void", "r"), ("both", 0, 0))
        answers = set()
        for thing in variants(lines):
            wanted = lines_by_words(BOOK, thing)
            answers.add(wanted is None)
            self.assertIs(are_lines(BOOK, thing), wanted is not None, thing)
            if wanted is not None:
                self.assertEqual(sentences_of(BOOK, thing), tuple(wanted))
            self.assertIs(lines_hold(BOOK, A, both(B, B), thing), bool(wanted) and wanted[-1] == (A, both(B, B)), thing)
        self.assertEqual(answers, {True, False})


class WrongArgumentsTest(unittest.TestCase):

    def assert_raises_with(self, error_class, value, function, /, *rest, **more):
        with self.assertRaises(error_class) as caught:
            function(*rest, **more)
        self.assertIs(caught.exception.thing, value)

    def test_the_first_wrong_one(self):
        one, two, three, four = [1], [2], [3], [4]
        self.assert_raises_with(BadBook, one, are_lines, one, two)
        self.assert_raises_with(BadBook, one, are_lines, thing=(), book=one)
        self.assert_raises_with(BadBook, one, sentences_of, one, two)
        self.assert_raises_with(BadBook, one, sentences_of, lines=(), book=one)
        self.assert_raises_with(BadLines, two, sentences_of, (), two)
        self.assert_raises_with(BadLines, two, sentences_of, lines=two, book=BOOK)
        self.assert_raises_with(BadBook, one, lines_hold, one, two, three, four)
        self.assert_raises_with(BadConcept, two, lines_hold, BOOK, two, three, four)
        self.assert_raises_with(BadConcept, three, lines_hold, BOOK, A, three, four)
        self.assert_raises_with(BadConcept, two, lines_hold, thing=(), right=three, left=two, book=BOOK)

    def test_all_kinds_of_wrong_values(self):
        for thing in odd_values() + [A, ((A, B), (A, B, C)), ((A, B), [A, B])]:
            self.assert_raises_with(BadBook, thing, are_lines, thing, ())
            self.assert_raises_with(BadBook, thing, sentences_of, thing, ())
            self.assert_raises_with(BadBook, thing, lines_hold, thing, A, B, ())
        for thing in odd_values() + [(), both(A, ["all"]), BOOK]:
            self.assert_raises_with(BadConcept, thing, lines_hold, BOOK, thing, A, ())
            self.assert_raises_with(BadConcept, thing, lines_hold, BOOK, A, thing, ())

    def test_by_name(self):
        lines = (("axiom", 0),)
        self.assertIs(are_lines(thing=lines, book=BOOK), True)
        self.assertEqual(sentences_of(lines=lines, book=BOOK), ((A, B),))
        self.assertIs(lines_hold(thing=lines, right=B, left=A, book=BOOK), True)

    def test_what_is_passed_stays_and_answers_repeat(self):
        for thing in [[("same", A)], (["same", A],), (("same", [A]),), ({"same": [1]},), (("axiom", [0]), [])]:
            before = copy.deepcopy(thing)
            self.assertIs(are_lines(BOOK, thing), False)
            self.assertIs(lines_hold(BOOK, A, A, thing), False)
            self.assertRaises(BadLines, sentences_of, BOOK, thing)
            self.assertEqual(thing, before)
        lines = (("axiom", 0), ("all", B), ("chain", 0, 1))
        self.assertEqual(sentences_of(BOOK, lines), sentences_of(copy.deepcopy(BOOK), copy.deepcopy(lines)))

    def test_defined_in_the_file(self):
        for name in ("are_lines", "sentences_of", "lines_hold"):
            self.assertEqual(getattr(module, name).__module__, "tellalike.lines")


if __name__ == "__main__":
    unittest.main()
