"""tellalike.joins: two editions joined, quarrels, and what becomes of each side."""

import copy
import itertools
import random
import time
import unittest

from certificates import faults_of_join, join_by_words, quarrels_by_words
from oracles import made_book, told_by_words
from samples import A, ALL, B, C, NONE, both, odd_values, some, variants
from tellalike import joins as joins_module
from tellalike.concepts import read_book
from tellalike.covering import are_alike, cover_holds, does_cover, judge_cover
from tellalike.errors import BadBook, BadVocabulary, TooMany
from tellalike.joins import join, join_holds, judge_join, quarrels
from tellalike.telling import judge_told, told_holds

D = ("word", "d")
AB, ABC = (("a", "b"), ()), (("a", "b", "c"), ())
EMPTY = ((), ())
LEFT, RIGHT = ((A, B),), ((both(A, B), NONE),)


def is_join(base, left, right, vocabulary, thing):
    """Whether any value is a certificate of [12.2], slowly."""
    if not isinstance(thing, tuple) or len(thing) != 4 or thing[0] != "joined":
        return False
    for part in thing[1:3]:
        if not isinstance(part, tuple) or not part or (part[0], len(part)) not in (("covered", 3), ("sentence", 6)):
            return False
    for row in thing[3] if isinstance(thing[3], tuple) else [None]:
        if not isinstance(row, tuple) or len(row) != 3 or not isinstance(row[2], tuple) or len(row[2]) != 2:
            return False
        if not all(isinstance(world, tuple) and len(world) == 3 for world in row[2]):
            return False
    return not faults_of_join(base, left, right, vocabulary, thing)


def sides_beside(source):
    """A base book and two editions of it."""
    base = made_book(source, source.randint(0, 3), 2, names="abc", odd=0.1)
    sides = []
    for _ in range(2):
        side = [axiom for axiom in base if source.random() < 0.8] + list(made_book(source, source.randint(0, 2), 2, names="abc", odd=0.1))
        side += [source.choice(side)] if side and source.random() < 0.3 else []
        side += [source.choice([(A, B), (both(A, B), NONE), (B, NONE), (C, A)])] if source.random() < 0.5 else []
        sides.append(tuple(source.sample(side, len(side))))
    return (base, *sides)


class JoinTest(unittest.TestCase):

    def test_the_example(self):
        self.assertEqual(join(((A, B), (B, C)), ((A, B),), ((A, B), (B, C), (C, A))), ((A, B), (C, A)))
        self.assertEqual(quarrels((), ((A, B),), ((both(A, B), NONE),), AB), ("a",))
        self.assertEqual([part[0] for part in judge_join(((B, C),), (), ((B, C),), (("b", "c"), ()))[1:3]], ["covered", "sentence"])

    def test_kept_dropped_and_added(self):
        one, two, three, four = (A, B), (B, C), (C, D), (D, A)
        for base, left, right, wanted in (
            ((), (), (), ()), ((one,), (one,), (one,), (one,)), ((one,), (), (one,), ()), ((one,), (one,), (), ()), ((one,), (), (), ()), ((), (one,), (), (one,)),
            ((), (), (one,), (one,)), ((), (one,), (one,), (one,)), ((one, two), (two, one), (two, one), (one, two)), ((two, one), (one, two, three), (four, two, one), (two, one, three, four)),
            ((one, two), (two, three), (four, one, two, three), (two, three, four)), ((), (two, one), (one, three), (two, one, three)), ((one,), (two,), (three,), (two, three)),
            ((), (four, two), (three, two, one), (four, two, three, one)),
        ):
            self.assertEqual(join(base, left, right), wanted)
            self.assertEqual(join(right=right, left=left, base=base), wanted)

    def test_doubled_axioms(self):
        one, two, three = (A, B), (B, C), (C, D)
        for base, left, right, wanted in (((one, one), (one,), (one,), (one,)), ((one,), (one, one), (one, one), (one,)), ((), (two, two), (two,), (two,)),
                                          ((), (), (two, three, two), (two, three)), ((one, two, one), (two, one, two), (one, one, two), (one, two)), ((one, one), (), (one,), ())):
            self.assertEqual(join(base, left, right), wanted)

    def test_axioms_that_are_told_alike_are_not_the_same(self):
        self.assertEqual(join(((A, both(B, C)),), ((A, both(C, B)),), ((A, both(B, C)),)), ((A, both(C, B)),))
        deep = A
        for _ in range(12):
            deep = some("r", deep)
        self.assertEqual(join(((deep, A),), ((deep, A), (A, deep)), ((deep, A), (A, deep))), ((deep, A), (A, deep)))

    def test_many_joins(self):
        source = random.Random(111)
        for _ in range(300):
            base, left, right = sides_beside(source)
            found = join(base, left, right)
            self.assertEqual(found, join_by_words(base, left, right))
            self.assertEqual(len(found), len(set(found)))
            self.assertEqual(set(found), {axiom for axiom in base + left + right if (axiom in left) + (axiom in right) == 2 or axiom not in base})

    def test_what_becomes_of_each_side(self):
        source, sides = random.Random(112), 0
        for _ in range(150):
            base, left, right = sides_beside(source)
            again = tuple(source.sample(base, len(base))) + base[:1]
            self.assertEqual(set(join(base, again, right)), set(right))
            self.assertEqual(set(join(base, left, again)), set(left))
            grown = base + left, right + base
            vocabulary = source.choice((ABC, (("a",), ("r",)), EMPTY, (("a", "b"), ("r",))))
            try:
                self.assertIs(does_cover(join(base, again, right), right, vocabulary), True)
                self.assertIs(does_cover(join(base, left, again), left, vocabulary), True)
                self.assertIs(does_cover(join(base, *grown), grown[0], vocabulary), True)
                self.assertIs(does_cover(join(base, *grown), grown[1], vocabulary), True)
                self.assertIs(are_alike(join(base, left, right), join(base, right, left), vocabulary), True)
                sides += 1
            except TooMany:
                pass
        self.assertGreater(sides, 60)


class QuarrelsTest(unittest.TestCase):

    def judged(self, base, left, right, vocabulary):
        found = judge_join(base, left, right, vocabulary)
        self.assertEqual((len(found), found[0], faults_of_join(base, left, right, vocabulary, found)), (4, "joined", []))
        self.assertIs(join_holds(base, left, right, vocabulary, found), True)
        self.assertIs(join_holds(thing=found, vocabulary=vocabulary, right=right, left=left, base=base), True)
        self.assertEqual(judge_join(vocabulary=vocabulary, right=right, left=left, base=base), found)
        whole = join(base, left, right)
        self.assertIs(cover_holds(whole, left, vocabulary, found[1]), True)
        self.assertIs(cover_holds(whole, right, vocabulary, found[2]), True)
        for name, lines, worlds in found[3]:
            self.assertIs(told_holds(whole, ("word", name), NONE, ("told", lines)), True)
            self.assertEqual([told_holds(book, ("word", name), NONE, world) for book, world in zip((left, right), worlds)], [True, True])
        names = quarrels(base, left, right, vocabulary)
        self.assertEqual(names, tuple(row[0] for row in found[3]))
        self.assertEqual(names, quarrels(vocabulary=vocabulary, right=right, left=left, base=base))
        return names

    def test_quarrels(self):
        words = (("a", "b", "c", "d"), ())
        for base, left, right, wanted in (
            ((), LEFT, RIGHT, ("a",)), (LEFT, LEFT, LEFT + RIGHT, ()), (RIGHT, LEFT + RIGHT, (), ()), ((), LEFT + RIGHT, (), ()), ((), (), LEFT + RIGHT, ()), ((), LEFT + RIGHT, RIGHT, ()),
            ((), ((A, NONE),), (), ()), ((), ((A, NONE),), ((A, NONE),), ()), ((), LEFT + ((C, A), (D, A)), RIGHT, ("a", "c", "d")), (LEFT, (), LEFT + RIGHT, ()),
            ((), ((ALL, A),), ((A, NONE),), ("b", "c", "d")), ((), ((A, C), (B, C)), ((C, D), (both(C, D), NONE)), ("a", "b")), ((), (), (), ()),
        ):
            self.assertEqual(quarrels(base, left, right, words), wanted)
            self.assertEqual(self.judged(base, left, right, words), wanted)
            self.assertEqual(self.judged(base, right, left, words), wanted)
            self.assertEqual(quarrels(base, left, right, (("b", "d"), ("r",))), tuple(name for name in wanted if name in "bd"))
        self.assertEqual(quarrels((), LEFT, RIGHT, EMPTY), ())

    def test_sides_that_are_covered_and_sides_that_are_not(self):
        for base, left, right, kinds in ((((B, C),), (), ((B, C),), ["covered", "sentence"]), (((B, C),), ((B, C),), (), ["sentence", "covered"]), ((LEFT + RIGHT), LEFT, RIGHT, ["sentence"] * 2),
                                         ((), LEFT, RIGHT, ["covered"] * 2), (((A, B), (B, C)), ((A, B), (A, C)), ((B, C), (A, B)), ["covered", "sentence"])):
            found = judge_join(base, left, right, ABC)
            self.assertEqual([part[0] for part in found[1:3]], kinds)
            self.judged(base, left, right, ABC)

    def test_many_joins(self):
        source, numbers = random.Random(113), {}
        for _ in range(200):
            base, left, right = sides_beside(source)
            vocabulary = source.choice((ABC, (("a", "b"), ("r",)), (("a",), ("r",)), EMPTY))
            self.assertEqual(quarrels(base, left, right, vocabulary), quarrels_by_words(base, left, right, vocabulary))
            try:
                names = self.judged(base, left, right, vocabulary)
            except TooMany:
                continue
            numbers[len(names)] = numbers.get(len(names), 0) + 1
        self.assertGreater(numbers.get(1, 0) + numbers.get(2, 0), 1, numbers)

    def test_too_many(self):
        path = read_book("each x is some r a\neach a is some r b\neach b is some r c\neach c is some r d")
        ring = read_book("each x is some r x")
        with self.assertRaises(TooMany) as caught:
            judge_join(path + ring, path, ring + path, ((), ("r",)))
        self.assertEqual(caught.exception.bound, 3)
        self.assertEqual(quarrels(ring, path, ring, ((), ("r",))), ())
        self.assertEqual(join(ring, path, ring), path)


class CertificatesOfOthersTest(unittest.TestCase):

    LEFT = LEFT + ((C, A),)

    def setUp(self):
        self.found = judge_join((), self.LEFT, RIGHT, ABC)
        self.assertEqual([row[0] for row in self.found[3]], ["a", "c"])

    def holds(self, of_left=None, of_right=None, rows=None, books=None):
        kind, *rest = self.found
        chosen = [new if new is not None else old for new, old in zip((of_left, of_right, rows), rest)]
        thing = (kind, *chosen)
        books = books or ((), self.LEFT, RIGHT)
        wanted = is_join(*books, ABC, thing)
        self.assertIs(join_holds(*books, ABC, thing), wanted, thing)
        return wanted

    def test_quarrels_left_out_and_out_of_order(self):
        rows = self.found[3]
        self.assertIs(self.holds(), True)
        for wrong in ((), rows[:1], rows[1:], rows[::-1], rows + rows[1:], rows[:1] + rows, list(rows), (rows[0], list(rows[1])), (rows[0], rows[0]), (rows[0], rows[1] + ((),)),
                      (rows[0], rows[1][:2]), (rows[0], ("b",) + rows[1][1:]), (rows[0], (C,) + rows[1][1:]), (rows[0], None)):
            self.assertIs(self.holds(rows=wrong), False)

    def test_worlds_exchanged(self):
        first, second = self.found[3]
        name, lines, worlds = first
        for wrong in (worlds[::-1], worlds[:1], worlds * 2, list(worlds), (worlds[0], None), (("told", lines), worlds[1]), (worlds[0], worlds[1][:2]), (), None,
                      (worlds[0][:2] + (5,), worlds[1]), (worlds[0][:2] + (False,), worlds[1]), (list(worlds[0]), worlds[1])):
            self.assertIs(self.holds(rows=((name, lines, wrong), second)), False)
        own = (("world", (2, (("a", (1,)), ("b", (1,))), ()), 1), ("world", (2, (("a", (0, 1)), ("c", (1,))), ()), 0))
        self.assertIs(self.holds(rows=((name, lines, own), second)), True)
        self.assertIs(self.holds(rows=((name, lines, own[::-1]), second)), False)

    def test_other_lines(self):
        (name, lines, worlds), second = self.found[3]
        own = (("axiom", 0), ("same", A), ("both", 1, 0), ("axiom", 2), ("chain", 2, 3))
        self.assertIs(self.holds(rows=((name, own, worlds), second)), True)
        for wrong in ((), own[:4], own + (("same", A),), second[1], None, list(own), judge_told(((A, NONE),), A, NONE)[1]):
            self.assertIs(self.holds(rows=((name, wrong, worlds), second)), False)

    def test_other_tables_and_sentences(self):
        kind, pairs, states = self.found[1]
        self.assertEqual(kind, "covered")
        whole = join((), self.LEFT, RIGHT)
        more = tuple(sorted(states + (((), (), ()),)))
        self.assertIs(self.holds(of_left=(kind, pairs, more)), True)
        self.assertIs(self.holds(of_left=self.found[2], of_right=self.found[1]), False)
        for wrong in ((kind, pairs, states[1:]), (kind, pairs, ()), (kind, pairs), (), 0, [kind, pairs, states], judge_cover((), self.LEFT, ABC), ("sentence", pairs, states)):
            self.assertIs(self.holds(of_left=wrong), False)
            self.assertIs(self.holds(of_right=wrong), False)
        self.assertIs(does_cover(whole, RIGHT, ABC), True)

    def test_books_exchanged(self):
        kind, of_left, of_right, rows = self.found
        exchanged = tuple((name, judge_told(join((), RIGHT, self.LEFT), ("word", name), NONE)[1], worlds[::-1]) for name, _, worlds in rows)
        self.assertIs(join_holds((), RIGHT, self.LEFT, ABC, (kind, of_right, of_left, exchanged)), True)
        self.assertIs(self.holds(books=((), RIGHT, self.LEFT)), False)
        self.assertIs(self.holds(books=(self.LEFT, self.LEFT, RIGHT)), False)

    def test_a_sentence(self):
        books = ((B, C),), (), ((B, C),)
        found = judge_join(*books, ABC)
        self.assertEqual(found[2][:3], ("sentence", B, C))
        own = ("sentence", B, C, (("axiom", 0),), (3, (("b", (2,)),), ()), 2)
        self.assertIs(join_holds(*books, ABC, ("joined", found[1], own, ())), True)
        for wrong in (own[:5] + (1,), own[:1] + (both(B, ALL),) + own[2:], own[:3] + ((),) + own[4:], ("covered", (), ()), ()):
            self.assertIs(join_holds(*books, ABC, ("joined", found[1], wrong, ())), False)

    def test_variants(self):
        books = ((), ((A, B),), ((B, NONE),))
        words = (("a",), ())
        thing, right = judge_join(*books, words), 0
        self.assertEqual(len(thing[3]), 1)
        for other in variants(thing):
            wanted = is_join(*books, words, other)
            right += wanted
            self.assertIs(join_holds(*books, words, other), wanted, other)
        self.assertGreater(right, 0)

    def test_other_values(self):
        kind, of_left, of_right, rows = self.found
        for thing in odd_values() + [(), ("joined",), ("joined", (), (), ()), self.found[:3], self.found + ((),), list(self.found), self.found[1:]]:
            self.assertIs(join_holds((), self.LEFT, RIGHT, ABC, thing), False, thing)
            for more in ((kind, thing, of_right, rows), (kind, of_left, thing, rows), (kind, of_left, of_right, thing), (kind, of_left, of_right, (thing, rows[1])),
                         (kind, of_left, of_right, (("a", thing, rows[0][2]), rows[1])), (kind, of_left, of_right, (("a", rows[0][1], thing), rows[1])),
                         (kind, of_left, of_right, (("a", rows[0][1], (thing, thing)), rows[1])), (thing, of_left, of_right, rows)):
                self.assertIs(join_holds((), self.LEFT, RIGHT, ABC, more), False, more)


class WrongArgumentsTest(unittest.TestCase):

    def assert_raises_with(self, error_class, value, function, /, *rest, **more):
        with self.assertRaises(error_class) as caught:
            function(*rest, **more)
        self.assertIs(caught.exception.thing, value)

    def test_the_earliest_that_is_none(self):
        wrong = [[1], [2], [3]]
        for chosen in itertools.product((True, False), repeat=3):
            if all(chosen):
                continue
            books = [LEFT if right else bad for right, bad in zip(chosen, wrong)]
            first = wrong[chosen.index(False)]
            named = dict(zip(("right", "left", "base"), reversed(books)))
            self.assert_raises_with(BadBook, first, join, *books)
            self.assert_raises_with(BadBook, first, join, **named)
            for vocabulary in (AB, [4]):
                for function in (judge_join, quarrels):
                    self.assert_raises_with(BadBook, first, function, *books, vocabulary)
                    self.assert_raises_with(BadBook, first, function, vocabulary=vocabulary, **named)
                self.assert_raises_with(BadBook, first, join_holds, *books, vocabulary, None)
        for function, rest in ((judge_join, ()), (quarrels, ()), (join_holds, ([5],))):
            vocabulary = [4]
            self.assert_raises_with(BadVocabulary, vocabulary, function, LEFT, LEFT, RIGHT, vocabulary, *rest)

    def test_all_kinds_of_wrong_values(self):
        for thing in odd_values() + [A, (LEFT,), ((A, B), [A, B]), LEFT[0]]:
            for k in range(3):
                books = [LEFT] * k + [thing] + [LEFT] * (2 - k)
                self.assert_raises_with(BadBook, thing, join, *books)
                self.assert_raises_with(BadBook, thing, quarrels, *books, AB)
        for thing in odd_values() + [(), (("b", "a"), ()), [(), ()]]:
            self.assert_raises_with(BadVocabulary, thing, quarrels, LEFT, LEFT, LEFT, thing)
            self.assert_raises_with(BadVocabulary, thing, judge_join, LEFT, LEFT, LEFT, thing)

    def test_what_is_passed_stays_and_answers_repeat(self):
        source = random.Random(114)
        for _ in range(20):
            arguments = (*sides_beside(source), AB)
            before = copy.deepcopy(arguments)
            found = judge_join(*arguments)
            self.assertEqual(found, judge_join(*copy.deepcopy(arguments)))
            self.assertIs(join_holds(*arguments, copy.deepcopy(found)), True)
            self.assertEqual(join(*arguments[:3]), join(*before[:3]))
            self.assertEqual(arguments, before)
        for thing in (["joined", [], [], []], ("joined", [], [[]], [])):
            before = copy.deepcopy(thing)
            self.assertIs(join_holds((), LEFT, RIGHT, AB, thing), False)
            self.assertEqual(thing, before)

    def test_defined_in_the_file(self):
        for name in ("join", "judge_join", "join_holds", "quarrels"):
            self.assertEqual(getattr(joins_module, name).__module__, "tellalike.joins")


class LimitsTest(unittest.TestCase):

    def test_books_at_the_limits(self):
        source, slowest, kinds = random.Random(115), 0, set()
        for k in range(30):
            base = made_book(source, 6, 5, names="abcdef", odd=(0.02, 0.1)[k % 2])
            left, right = base[:4] + made_book(source, 2, 5, names="abcd"), base[1:5] + made_book(source, 2, 5, names="abcd")
            self.assertLessEqual(len(join(base, left, right)), 8)
            for vocabulary in ((("a", "b", "c", "d"), ("r", "s")), (("a", "b"), ("r",)), (("a", "b", "c", "d"), ())):
                begin = time.perf_counter()
                try:
                    found = judge_join(base, left, right, vocabulary)
                    kinds |= {found[1][0], found[2][0]}
                    self.assertIs(join_holds(base, left, right, vocabulary, found), True)
                except TooMany as error:
                    kinds.add(error.bound)
                slowest = max(slowest, time.perf_counter() - begin)
        self.assertLess(slowest, 1)
        self.assertTrue({"covered", "sentence", 40} <= kinds, kinds)

    def test_the_oracle(self):
        self.assertIs(told_by_words(LEFT + RIGHT, A, NONE), True)
        self.assertIs(told_by_words(LEFT, A, NONE), False)


if __name__ == "__main__":
    unittest.main()
