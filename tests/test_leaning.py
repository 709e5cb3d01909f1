"""tellalike.leaning: which concepts are lean, and how others are made so, for all kinds of concepts."""

import random
import unittest

from oracles import concept_of_size, is_in_by_words, made_world, weaker_by_words
from samples import A, ALL, B, both, some
from tellalike.leaning import is_lean, made_lean
from tellalike.matching import Model, mark


def things(world, concept):
    """The things in the concept, as a number with a bit for each."""
    return sum(1 << x for x in range(world[0]) if is_in_by_words(world, concept, x))


def is_lean_by_words(world, concept, missed):
    return all(things(world, step) & missed for step in weaker_by_words(concept))


def can_become(concept, other):
    """Whether the other concept comes of the concept by steps that make it weaker."""
    if other == concept:
        return True
    if other == ALL and concept[0] != "and":
        return True
    if concept[0] == "and":
        if other[0] == "and" and can_become(concept[1], other[1]) and can_become(concept[2], other[2]):
            return True
        return can_become(concept[1], other) or can_become(concept[2], other)
    return concept[0] == other[0] == "some" and concept[1] == other[1] and can_become(concept[2], other[2])


class LeaningTest(unittest.TestCase):

    def test_many_concepts(self):
        source, answers, shorter = random.Random(41), {True: 0, False: 0}, 0
        for _ in range(3000):
            world = made_world(source)
            concept = concept_of_size(source, source.randint(1, 7), "abr", "as", 0.1)
            model = Model(world)
            marked = mark(model, concept)
            self.assertEqual((marked[0], marked[1]), (concept, things(world, concept)))
            missed = (model.everything - marked[1]) & source.choice([-1, source.randrange(64)])
            wanted = is_lean_by_words(world, concept, missed)
            answers[wanted] += 1
            self.assertIs(is_lean(model, marked, missed), wanted, (world, concept, missed))
            lean = made_lean(model, marked, missed)
            shorter += lean[0] != concept
            self.assertEqual(lean, mark(model, lean[0]))
            self.assertEqual(lean[1] & missed, 0)
            self.assertTrue(is_lean_by_words(world, lean[0], missed), (world, concept, missed, lean[0]))
            self.assertIs(is_lean(model, lean, missed), True)
            self.assertTrue(can_become(concept, lean[0]), (concept, lean[0]))
        self.assertGreater(min(answers.values()), 200)
        self.assertGreater(shorter, 200)

    def test_one_of_two_that_is_enough(self):
        world = (3, (("a", (0, 1)), ("b", (0, 2))), (("r", ((1, 0),)),))
        model = Model(world)
        for concept, missed, wanted in (
            (both(A, B), 0b100, A), (both(A, B), 0b010, B), (both(B, A), 0b100, A), (both(A, B), 0b110, both(A, B)), (both(A, B), 0, ALL),
            (both(A, A), 0b100, A), (both(A, some("r", B)), 0b101, some("r", ALL)), (both(some("r", B), A), 0b101, some("r", ALL)),
        ):
            self.assertEqual(made_lean(model, mark(model, concept), missed)[0], wanted, (concept, missed))

    def test_each_of_two_that_is_enough(self):
        world = (2, (("a", (0,)), ("b", (0,))), ())
        model = Model(world)
        lean = made_lean(model, mark(model, both(both(A, ALL), both(B, ALL))), 0b10)
        self.assertEqual(lean[0], B)
        lean = made_lean(model, mark(model, both(both(A, B), ALL)), 0b10)
        self.assertEqual(lean[0], B)


if __name__ == "__main__":
    unittest.main()
