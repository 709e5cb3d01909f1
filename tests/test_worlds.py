"""tellalike.worlds: what worlds are, what is in concepts there, which books hold, and certificates of models."""

import copy
import random
import unittest

from oracles import is_in_by_words, made_concept, made_world
from samples import A, ALL, B, C, NONE, both, deep, odd_values, some
from tellalike import worlds
from tellalike.errors import BadBook, BadConcept, BadText, BadWorld
from tellalike.worlds import does_hold_in, is_world, judge_model, model_holds, things_in

EMPTY = (1, (), ())
EXAMPLE = (2, (("a", (0, 1)), ("b", (1,))), (("r", ((0, 1),)),))
# 0 is tied by r to 1 and 2, 1 by r to itself and by s to 3, 3 by s to 0.
WIDE = (
    4, (("a", (0, 1, 3)), ("b", (1, 2)), ("r", (3,))),
    (("r", ((0, 1), (0, 2), (1, 1))), ("s", ((1, 3), (3, 0)))),
)


class IsWorldTest(unittest.TestCase):

    def test_worlds(self):
        right = [EMPTY, EXAMPLE, WIDE, (2, (("a", (1,)),), ()), (2, (), (("a", ((0, 0), (0, 1), (1, 0), (1, 1))),))]
        for thing in right:
            self.assertIs(is_world(thing), True, thing)
            self.assertIs(is_world(thing=thing), True, thing)

    def test_other_values(self):
        for thing in odd_values() + [(), A, ((), ()), (1, ()), (1, (), (), ())]:
            self.assertIs(is_world(thing), False, thing)

    def test_many(self):
        for many, wanted in ((0, False), (1, True), (2000, True), (2001, False), (-1, False), (10 ** 39, False)):
            self.assertIs(is_world((many, (), ())), wanted, many)
        self.assertIs(is_world((2000, (("a", tuple(range(2000))),), (("r", ((1999, 1999),)),))), True)
        for many in (True, False, None, "1", (1,), [1]):
            self.assertIs(is_world((many, (), ())), False, many)

    def test_lists(self):
        wrong = [
            [1, (), ()], (1, [], ()), (1, (), []), (2, [("a", (0,))], ()), (2, (["a", (0,)],), ()), (2, (("a", [0]),), ()),
            (2, (), [("r", ((0, 0),))]), (2, (), (["r", ((0, 0),)],)), (2, (), (("r", [(0, 0)]),)), (2, (), (("r", ([0, 0],)),)),
            (2, {}, ()), (2, (), {}), (2, None, ()), (2, (), None), (2, {"a": (0,)}, ()), (2, "a", ()),
        ]
        for thing in wrong:
            self.assertIs(is_world(thing), False, thing)

    def test_the_order_of_names_and_roles(self):
        a, b, r, s = ("a", (0,)), ("b", (0,)), ("r", ((0, 0),)), ("s", ((0, 0),))
        self.assertIs(is_world((2, (a, b), (r, s))), True)
        wrong = [
            (2, (b, a), ()), (2, (a, a), ()), (2, (("a", (0,)), ("a", (1,))), ()), (2, (), (s, r)), (2, (), (r, r)),
            (2, (), (("r", ((0, 0),)), ("r", ((0, 1),)))),
        ]
        for thing in wrong:
            self.assertIs(is_world(thing), False, thing)

    def test_things_of_names(self):
        for things in ((0,), (1,), (0, 1), (0, 1, 2)):
            self.assertIs(is_world((3, (("a", things),), ())), True, things)
        wrong = [
            (), (3,), (-1,), (0, 3), (1, 0), (0, 0), (True,), (False,), (0, True), ("0",), (None,), ((0,),), 0, (0, []),
            (0, "a"), None, "a", (2, 1, 0), ({},),
        ]
        for things in wrong:
            self.assertIs(is_world((3, (("a", things),), ())), False, things)

    def test_pairs_of_roles(self):
        for pairs in (((0, 0),), ((0, 1), (0, 2)), ((0, 2), (1, 0)), ((2, 2),)):
            self.assertIs(is_world((3, (), (("r", pairs),))), True, pairs)
        wrong = [
            (), ((0, 3),), ((3, 0),), ((-1, 0),), ((0, -1),), ((1, 0), (0, 2)), ((0, 2), (0, 1)), ((0, 0), (0, 0)), ((0,),),
            ((0, 0, 0),), ((True, 0),), ((0, False),), (("0", 0),), ((0, None),), (0, 1), ((0, 0), 1), ((0, 0), ()), (((0,), 0),),
        ]
        for pairs in wrong:
            self.assertIs(is_world((3, (), (("r", pairs),))), False, pairs)

    def test_words(self):
        for word in ("a", "word", "alla", "abcdefghij"):
            self.assertIs(is_world((1, ((word, (0,)),), ((word, ((0, 0),)),))), True, word)
        for word in ("all", "is", "", "A", "a\n", "abcdefghijk", 1, None, True, ("a",), ["a"]):
            self.assertIs(is_world((1, ((word, (0,)),), ())), False, word)
            self.assertIs(is_world((1, (), ((word, ((0, 0),)),))), False, word)

    def test_rows_that_are_no_pairs(self):
        for row in ((), ("a",), ("a", (0,), ()), "a", 0, None, (("a",), (0,)), ((0,), "a")):
            self.assertIs(is_world((1, (row,), ())), False, row)
        for row in ((), ("r",), ("r", ((0, 0),), ()), "r", 0, None, (((0, 0),), "r"), ("r", (0, 0))):
            self.assertIs(is_world((1, (), (row,))), False, row)


class ThingsInTest(unittest.TestCase):

    def test_the_example(self):
        self.assertEqual(things_in(EXAMPLE, some("r", both(A, B))), (0,))
        self.assertEqual(things_in(EXAMPLE, ALL), (0, 1))

    def test_kinds_of_concepts(self):
        cases = [
            (ALL, (0, 1, 2, 3)), (NONE, ()), (A, (0, 1, 3)), (B, (1, 2)), (both(A, B), (1,)), (both(A, NONE), ()),
            (both(ALL, B), (1, 2)), (some("r", ALL), (0, 1)), (some("r", B), (0, 1)), (some("s", A), (1, 3)),
            (some("s", B), ()), (some("r", NONE), ()), (some("r", some("s", A)), (0, 1)), (some("r", both(A, B)), (0, 1)),
            (some("s", some("s", some("r", B))), (1,)), (both(some("r", ALL), some("s", ALL)), (1,)),
            (("word", "r"), (3,)), (some("s", ("word", "r")), (1,)), (some("r", both(B, some("r", ALL))), (0, 1)),
        ]
        for concept, things in cases:
            self.assertEqual(things_in(WIDE, concept), things, concept)
            self.assertEqual(things_in(world=WIDE, concept=concept), things, concept)

    def test_words_that_the_world_does_not_have(self):
        for concept in (C, some("t", ALL), some("a", A), ("word", "s"), both(A, C), some("r", C), some("b", NONE)):
            self.assertEqual(things_in(WIDE, concept), (), concept)

    def test_the_answer_is_a_tuple(self):
        for concept in (ALL, NONE, A, C, both(A, B), some("r", A)):
            self.assertIsInstance(things_in(WIDE, concept), tuple)

    def test_each_thing_once(self):
        world = (3, (), (("r", ((0, 0), (0, 1), (0, 2), (2, 0), (2, 1))),))
        self.assertEqual(things_in(world, some("r", ALL)), (0, 2))

    def test_deep_ones(self):
        self.assertEqual(things_in((2, (("a", (0, 1)), ("b", (1,))), ()), deep(2)), (1,))
        self.assertEqual(things_in(WIDE, deep(12)), ())
        ring = (5, (("a", (0,)),), (("r", ((0, 1), (1, 2), (2, 3), (3, 4), (4, 0))),))
        concept = A
        for _ in range(12):
            concept = some("r", concept)
        self.assertEqual(things_in(ring, concept), (3,))

    def test_many_worlds(self):
        source = random.Random(3)
        for _ in range(400):
            world, concept = made_world(source), made_concept(source, 5)
            self.assertIs(is_world(world), True)
            wanted = tuple(x for x in range(world[0]) if is_in_by_words(world, concept, x))
            self.assertEqual(things_in(world, concept), wanted)


class HoldingTest(unittest.TestCase):

    def test_sentences(self):
        cases = [
            (B, A, False), (both(A, B), B, True), (some("r", ALL), A, True), (A, some("r", ALL), False), (NONE, C, True),
            (C, NONE, True), (ALL, A, False), (A, ALL, True), (A, A, True), (("word", "r"), some("s", ALL), True),
            (some("s", A), A, True), (A, C, False), (A, NONE, False), (some("t", ALL), NONE, True),
        ]
        for left, right, wanted in cases:
            self.assertIs(does_hold_in(WIDE, left, right), wanted, (left, right))
            self.assertIs(does_hold_in(world=WIDE, right=right, left=left), wanted, (left, right))

    def test_many_sentences(self):
        source = random.Random(4)
        for _ in range(300):
            world, left, right = made_world(source), made_concept(source, 3), made_concept(source, 2)
            outside = [
                x for x in range(world[0]) if is_in_by_words(world, left, x) and not is_in_by_words(world, right, x)
            ]
            self.assertIs(does_hold_in(world, left, right), not outside)
            wanted = ("axiom", 1, outside[0]) if outside else ("model",)
            self.assertEqual(judge_model(world, ((left, left), (left, right), (left, right))), wanted)


class ModelsTest(unittest.TestCase):

    def test_the_example(self):
        self.assertEqual(judge_model(EXAMPLE, ((B, A), (A, some("r", B)))), ("axiom", 1, 1))
        self.assertEqual(judge_model(EXAMPLE, ((some("r", ALL), A),)), ("model",))

    def test_a_book_without_axioms(self):
        for world in (EMPTY, EXAMPLE, WIDE):
            self.assertEqual(judge_model(world, ()), ("model",))
            self.assertIs(model_holds(world, (), ("model",)), True)

    def test_the_first_axiom_and_the_least_thing(self):
        good, at_two, at_zero = (A, A), (B, A), (A, B)
        self.assertEqual(judge_model(WIDE, (good,)), ("model",))
        self.assertEqual(judge_model(WIDE, (at_two,)), ("axiom", 0, 2))
        self.assertEqual(judge_model(WIDE, (at_zero,)), ("axiom", 0, 0))
        self.assertEqual(judge_model(WIDE, (good, good, at_two, at_zero)), ("axiom", 2, 2))
        self.assertEqual(judge_model(WIDE, (good, at_zero, at_two)), ("axiom", 1, 0))
        self.assertEqual(judge_model(WIDE, ((some("r", ALL), both(A, B)), at_two)), ("axiom", 0, 0))
        self.assertEqual(judge_model(world=WIDE, book=((ALL, NONE),)), ("axiom", 0, 0))
        self.assertEqual(judge_model(WIDE, ((("word", "r"), some("r", ALL)),)), ("axiom", 0, 3))

    def test_holding_certificates(self):
        self.assertIs(model_holds(WIDE, ((A, A),), ("model",)), True)
        self.assertIs(model_holds(WIDE, ((A, A), (B, A)), ("axiom", 1, 2)), True)
        self.assertIs(model_holds(world=WIDE, book=((A, B),), thing=("axiom", 0, 0)), True)

    def test_other_certificates(self):
        model, book = ((A, A),), ((A, A), (A, B))
        self.assertEqual(judge_model(WIDE, book), ("axiom", 1, 0))
        wrong = [
            ("model",), ("axiom", 1, 3), ("axiom", 0, 0), ("axiom", 1), ("axiom", 1, 0, 0), ["axiom", 1, 0], ("axiom",),
            ("axiom", True, 0), ("axiom", 1, False), ("axiom", True, False), ("Axiom", 1, 0), (1, 0), ("axiom", "1", "0"),
            ("axiom", (1,), (0,)), ("axiom", None, None), ("axiom", -1, 0), ("axiom", 2, 0), ("axiom", 0, 1),
        ]
        for thing in wrong + odd_values() + [()]:
            self.assertIs(model_holds(WIDE, book, thing), False, thing)
        for thing in odd_values() + [(), ["model"], "model", ("model", 0), ("model", ()), (("model",),), ("axiom", 0, 0)]:
            self.assertIs(model_holds(WIDE, model, thing), False, thing)

    def test_true_is_not_the_thing_one(self):
        world = (2, (("a", (0, 1)), ("b", (0,))), ())
        self.assertEqual(judge_model(world, ((A, B),)), ("axiom", 0, 1))
        for thing in (("axiom", False, 1), ("axiom", 0, True), ("axiom", False, True)):
            self.assertIs(model_holds(world, ((A, B),), thing), False)


class WrongArgumentsTest(unittest.TestCase):

    def assert_raises_with(self, error_class, value, function, /, *rest, **more):
        with self.assertRaises(error_class) as caught:
            function(*rest, **more)
        self.assertIs(caught.exception.thing, value)

    def test_no_world(self):
        for thing in odd_values() + [(), (0, (), ()), (1, (("a", (1,)),), ()), ()]:
            self.assert_raises_with(BadWorld, thing, things_in, thing, A)
            self.assert_raises_with(BadWorld, thing, does_hold_in, thing, A, B)
            self.assert_raises_with(BadWorld, thing, judge_model, thing, ())
            self.assert_raises_with(BadWorld, thing, model_holds, thing, (), ("model",))

    def test_no_concept(self):
        for thing in odd_values() + [(), both(A, ["all"])]:
            self.assert_raises_with(BadConcept, thing, things_in, EMPTY, thing)
            self.assert_raises_with(BadConcept, thing, does_hold_in, EMPTY, thing, A)
            self.assert_raises_with(BadConcept, thing, does_hold_in, EMPTY, A, thing)

    def test_no_book(self):
        for thing in odd_values() + [A, ((A, B), (A, B, C))]:
            self.assert_raises_with(BadBook, thing, judge_model, EMPTY, thing)
            self.assert_raises_with(BadBook, thing, model_holds, EMPTY, thing, ("model",))

    def test_the_first_wrong_one_of_several(self):
        one, two, three = [1], [2], [3]
        self.assert_raises_with(BadWorld, one, things_in, one, two)
        self.assert_raises_with(BadWorld, one, things_in, concept=two, world=one)
        self.assert_raises_with(BadWorld, one, does_hold_in, one, two, three)
        self.assert_raises_with(BadWorld, one, does_hold_in, right=three, left=two, world=one)
        self.assert_raises_with(BadConcept, two, does_hold_in, EMPTY, two, three)
        self.assert_raises_with(BadConcept, two, does_hold_in, EMPTY, right=three, left=two)
        self.assert_raises_with(BadWorld, one, judge_model, one, two)
        self.assert_raises_with(BadWorld, one, judge_model, book=two, world=one)
        self.assert_raises_with(BadWorld, one, model_holds, one, two, three)
        self.assert_raises_with(BadBook, two, model_holds, EMPTY, two, three)
        self.assert_raises_with(BadBook, two, model_holds, thing=BadText(1), book=two, world=EMPTY)

    def test_what_is_passed_stays_and_answers_repeat(self):
        for thing in [(1, [("a", [0])], ()), ["model", [1]], ("axiom", [1], {}), {"a": [1]}]:
            before = copy.deepcopy(thing)
            self.assertIs(is_world(thing), False)
            self.assertIs(model_holds(EXAMPLE, ((A, B),), thing), False)
            self.assertEqual(thing, before)
        self.assertEqual(judge_model(WIDE, ((A, B),)), judge_model(copy.deepcopy(WIDE), ((A, B),)))

    def test_defined_in_the_file(self):
        for name in ("is_world", "things_in", "does_hold_in", "judge_model", "model_holds"):
            self.assertEqual(getattr(worlds, name).__module__, "tellalike.worlds")


if __name__ == "__main__":
    unittest.main()
