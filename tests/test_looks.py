"""tellalike.looks: simulations, rounds, weaker and lean concepts, and the certificates for two things."""

import copy
import itertools
import random
import time
import unittest

from oracles import all_concepts, is_in_by_words, is_simulation, made_world, rounds_by_words, size_by_words, tied_to
from oracles import concept_of_size, weaker_by_words
from samples import A, ALL, B, C, NONE, both, odd_values, some, variants
from tellalike import looks
from tellalike.concepts import is_concept, is_in, vocabulary_of
from tellalike.errors import BadConcept, BadThing, BadVocabulary, BadWorld, TooMany
from tellalike.looks import greatest, judge_simulated, round_of, simulated_holds, weaker

ONE = (2, (("a", (1,)),), (("r", ((0, 1),)),))
TWO = (1, (), (("r", ((0, 0),)),))
AR = (("a",), ("r",))
EMPTY = ((), ())


def path(many, end=()):
    """A world in which the thing 0 is tied by r to 1, and so on; the last one has the names end."""
    ties = tuple((k, k + 1) for k in range(many - 1))
    return (many, tuple((name, (many - 1,)) for name in end), (("r", ties),) if ties else ())


def is_in_all(world, concept, things):
    return all(is_in_by_words(world, concept, x) for x in things)


class WeakerTest(unittest.TestCase):

    def test_small_ones(self):
        cases = [
            (ALL, ()), (NONE, (ALL,)), (A, (ALL,)), (some("r", ALL), (ALL,)), (some("r", A), (ALL, some("r", ALL))),
            (both(A, B), (both(ALL, B), both(A, ALL), A, B)), (both(ALL, ALL), (ALL,)), (both(A, A), (both(ALL, A), both(A, ALL), A)),
            (both(NONE, ALL), (ALL, both(ALL, ALL), NONE)), (some("r", NONE), (ALL, some("r", ALL))),
            (some("r", some("s", ALL)), (ALL, some("r", ALL))), (both(A, ALL), (ALL, both(ALL, ALL), A)),
        ]
        for concept, wanted in cases:
            self.assertEqual(weaker(concept), tuple(sorted(wanted)), concept)
            self.assertEqual(weaker(concept=concept), tuple(sorted(wanted)))

    def test_many_concepts(self):
        source = random.Random(21)
        for _ in range(300):
            concept = concept_of_size(source, source.randint(1, 12), "ab", "r", 0.15)
            found = weaker(concept)
            self.assertIsInstance(found, tuple)
            self.assertEqual(found, tuple(sorted(weaker_by_words(concept))))

    def test_no_concept(self):
        for thing in odd_values() + [(), both(A, ["all"]), some("all", A)]:
            for call in (lambda: weaker(thing), lambda: weaker(concept=thing)):
                with self.assertRaises(BadConcept) as caught:
                    call()
                self.assertIs(caught.exception.thing, thing)


class SimulationsTest(unittest.TestCase):

    def test_the_example(self):
        self.assertEqual(greatest(TWO, ONE, ((), ("r",))), ())
        self.assertEqual(greatest(ONE, TWO, ((), ("r",))), ((0, 0), (1, 0)))
        self.assertEqual(judge_simulated(ONE, 0, TWO, 0, AR), ("concept", some("r", A)))
        self.assertEqual(judge_simulated(TWO, 0, ONE, 0, ((), ("r",))), ("concept", some("r", some("r", ALL))))

    def test_a_world_beside_itself(self):
        source = random.Random(22)
        for _ in range(50):
            world = made_world(source)
            for vocabulary in (EMPTY, (("a", "b"), ()), ((), ("a", "s")), (("a", "b", "r"), ("a", "s"))):
                found = greatest(world, world, vocabulary)
                for x in range(world[0]):
                    self.assertIn((x, x), found)
                    self.assertIsNone(round_of(world, x, world, x, vocabulary))
                    self.assertEqual(judge_simulated(world, x, world, x, vocabulary)[0], "simulated")

    def test_vocabularies_without_words(self):
        source = random.Random(23)
        for _ in range(20):
            world, second = made_world(source), made_world(source)
            everything = tuple(itertools.product(range(world[0]), range(second[0])))
            self.assertEqual(greatest(world, second, EMPTY), everything)
            self.assertEqual(greatest(world, second, (("x", "y"), ("x", "y"))), everything)
            self.assertIsNone(round_of(world, 0, second, 0, (("x", "y"), ("x", "y"))))

    def test_without_roles_only_names_count(self):
        world, second = (2, (("a", (0,)), ("b", (0, 1))), (("r", ((0, 1),)),)), (3, (("a", (1, 2)), ("b", (0, 1))), ())
        self.assertEqual(greatest(world, second, (("a", "b"), ())), ((0, 1), (1, 0), (1, 1)))
        self.assertEqual(greatest(world, second, (("a",), ())), ((0, 1), (0, 2), (1, 0), (1, 1), (1, 2)))
        self.assertEqual(greatest(world, second, (("a", "b"), ("r",))), ((1, 0), (1, 1)))
        self.assertEqual(greatest(second, world, (("a", "b"), ("r",))), ((0, 0), (0, 1), (1, 0), (2, 0)))

    def test_names_and_roles_that_are_called_alike(self):
        world, second = (1, (("r", (0,)),), ()), (1, (), (("r", ((0, 0),)),))
        self.assertEqual(round_of(world, 0, second, 0, (("r",), ())), 0)
        self.assertIsNone(round_of(world, 0, second, 0, ((), ("r",))))
        self.assertEqual(round_of(second, 0, world, 0, (("r",), ("r",))), 1)

    def test_many_worlds(self):
        source = random.Random(24)
        for _ in range(150):
            world, second = made_world(source), made_world(source)
            vocabulary = (tuple(w for w in "abcr" if source.random() < 0.5), tuple(w for w in "ars" if source.random() < 0.7))
            rounds = rounds_by_words(world, second, vocabulary)
            every = list(itertools.product(range(world[0]), range(second[0])))
            found = greatest(world, second, vocabulary)
            self.assertEqual(found, tuple(pair for pair in every if pair not in rounds))
            self.assertTrue(is_simulation(world, second, vocabulary, found))
            for x, y in every:
                self.assertEqual(round_of(world, x, second, y, vocabulary), rounds.get((x, y)))


class RoundsTest(unittest.TestCase):

    def test_paths(self):
        for many in range(1, 6):
            for other in range(1, 6):
                wanted = None if many <= other else other
                self.assertEqual(round_of(path(many), 0, path(other), 0, ((), ("r",))), wanted, (many, other))
                self.assertIsNone(round_of(path(many), 0, path(other), 0, (("a",), ("s",))))

    def test_names_at_the_end(self):
        for many in range(1, 6):
            self.assertEqual(round_of(path(many, "a"), 0, path(many, "b"), 0, (("a", "b"), ("r",))), many - 1)
            self.assertIsNone(round_of(path(many, "a"), 0, path(many, "ab"), 0, (("a", "b"), ("r",))))
            self.assertIsNone(round_of(path(many, "a"), 0, path(many, "b"), 0, (("b",), ("r",))))

    def test_the_least_round_of_the_ties_and_the_greatest_of_their_matches(self):
        # 0 is tied to a path of 2 and to something with a name; both things to which the other one is tied lack it.
        world = (4, (("a", (3,)),), (("r", ((0, 1), (0, 3), (1, 2))),))
        second = (4, (("b", (1,)),), (("r", ((0, 1), (0, 2), (1, 1), (2, 3))),))
        self.assertEqual(round_of(world, 0, second, 0, AR), 1)
        self.assertIsNone(round_of(world, 0, second, 0, ((), ("r",))))
        # The one that is tied on needs a round more than the one that is not.
        third = (4, (), (("r", ((0, 1), (0, 2), (2, 3))),))
        self.assertEqual(round_of(path(4), 0, third, 0, AR), 3)
        self.assertEqual(round_of(path(3), 0, (2, (), (("r", ((0, 1),)),)), 0, AR), 2)

    def test_above_three(self):
        for many, wanted in ((4, 3), (5, 4), (6, 5)):
            world, second = path(many, "a"), path(many)
            self.assertEqual(round_of(world, 0, second, 0, AR), wanted)
            if wanted == 3:
                thing = judge_simulated(world, 0, second, 0, AR)
                self.assertEqual(thing, ("concept", some("r", some("r", some("r", A)))))
            else:
                with self.assertRaises(TooMany) as caught:
                    judge_simulated(world, 0, second, 0, AR)
                self.assertEqual(caught.exception.bound, 3)
            self.assertEqual(judge_simulated(world, 0, second, 0, ((), ("r",)))[0], "simulated")
            self.assertEqual(judge_simulated(world, many - 2, second, many - 2, AR), ("concept", some("r", A)))

    def test_certificates_are_judged_also_above_three(self):
        concept = A
        for _ in range(5):
            concept = some("r", concept)
        self.assertIs(simulated_holds(path(6, "a"), 0, path(6), 0, AR, ("concept", concept)), True)
        self.assertIs(simulated_holds(path(6, "a"), 0, path(6), 0, AR, ("concept", both(concept, concept))), False)
        self.assertIs(simulated_holds(path(6, "a"), 0, path(6), 0, AR, ("simulated", ())), False)


class CertificatesTest(unittest.TestCase):

    def assert_judged(self, world, x, second, y, vocabulary):
        thing = judge_simulated(world, x, second, y, vocabulary)
        number = round_of(world, x, second, y, vocabulary)
        self.assertIsInstance(thing, tuple)
        self.assertEqual((len(thing), thing[0]), (2, "simulated" if number is None else "concept"))
        self.assertIs(simulated_holds(world, x, second, y, vocabulary, thing), True)
        if number is None:
            self.assertEqual(thing[1], tuple(sorted(set(thing[1]))))
            self.assertIn((x, y), thing[1])
            self.assertTrue(is_simulation(world, second, vocabulary, thing[1]))
        else:
            self.assert_lean(world, x, second, y, vocabulary, thing[1])
            widest = max(len(tied_to(second, role, k)) for role in ("a", "r", "s") for k in range(second[0]))
            simple = [item for item in self.written(thing[1]) if item[0] in ("word", "all")]
            self.assertLessEqual(len(simple), (1 + widest) ** number)
        return thing

    def written(self, concept):
        inner = concept[1:] if concept[0] == "and" else concept[2:] if concept[0] == "some" else ()
        return [concept] + [item for each in inner for item in self.written(each)]

    def assert_lean(self, world, x, second, y, vocabulary, concept):
        self.assertIs(is_concept(concept) and is_in(concept, vocabulary), True)
        self.assertTrue(is_in_by_words(world, concept, x))
        self.assertFalse(is_in_by_words(second, concept, y))
        for step in weaker_by_words(concept):
            self.assertTrue(is_in_by_words(world, step, x) and is_in_by_words(second, step, y), (concept, step))

    def test_kinds(self):
        self.assertEqual(judge_simulated(ONE, 1, TWO, 0, AR), ("concept", A))
        self.assertEqual(judge_simulated(TWO, 0, (1, (), ()), 0, AR), ("concept", some("r", ALL)))
        self.assertEqual(judge_simulated(ONE, 0, TWO, 0, EMPTY)[0], "simulated")
        self.assert_judged(ONE, 0, TWO, 0, ((), ("r",)))

    def test_an_and_where_one_concept_is_not_enough(self):
        # 0 is tied to something with a and b, the other one to something with a and to something with b.
        world = (2, (("a", (1,)), ("b", (1,))), (("r", ((0, 1),)),))
        second = (3, (("a", (1,)), ("b", (2,))), (("r", ((0, 1), (0, 2)),),))
        thing = self.assert_judged(world, 0, second, 0, (("a", "b"), ("r",)))
        self.assertIn(thing[1], (some("r", both(A, B)), some("r", both(B, A))))
        for other in (both(A, B), both(B, A)):
            self.assertIs(simulated_holds(world, 0, second, 0, (("a", "b"), ("r",)), ("concept", some("r", other))), True)
        wrong = [
            some("r", A), some("r", both(A, A)), both(some("r", A), some("r", B)), some("r", both(both(A, B), A)), some("r", both(A, both(B, ALL))),
            both(some("r", both(A, B)), ALL), both(ALL, some("r", both(A, B))), some("r", both(both(A, B), some("r", ALL))), A, ALL, NONE,
            some("r", NONE), some("r", both(A, C)), both(some("r", both(A, B)), some("r", both(B, A))), some("s", both(A, B)),
        ]
        for concept in wrong:
            self.assertIs(simulated_holds(world, 0, second, 0, (("a", "b"), ("r",)), ("concept", concept)), False, concept)
        self.assertIs(simulated_holds(world, 0, second, 0, (("a",), ("r",)), ("concept", some("r", both(A, B)))), False)
        self.assertIs(simulated_holds(world, 0, second, 0, (("a", "b"), ()), ("concept", some("r", both(A, B)))), False)

    def test_another_lean_concept_than_the_one_returned(self):
        world, second = (2, (("a", (0,)), ("b", (0, 1))), (("r", ((0, 1),)),)), (1, (), ())
        vocabulary = (("a", "b"), ("r",))
        for concept in (A, B, some("r", ALL)):
            self.assertIs(simulated_holds(world, 0, second, 0, vocabulary, ("concept", concept)), True)
        for concept in (both(A, B), some("r", B), both(A, ALL), both(A, some("r", ALL)), ALL):
            self.assertIs(simulated_holds(world, 0, second, 0, vocabulary, ("concept", concept)), False)

    def test_other_simulations(self):
        world, second = (3, (), (("r", ((0, 1), (1, 1))),)), (3, (), (("r", ((0, 0), (0, 1), (1, 1))),))
        vocabulary = ((), ("r",))
        self.assertEqual(greatest(world, second, vocabulary), ((0, 0), (0, 1), (1, 0), (1, 1), (2, 0), (2, 1), (2, 2)))
        for pairs in (((0, 0), (1, 0)), ((0, 0), (1, 1)), ((0, 0), (1, 0), (2, 2)), greatest(world, second, vocabulary)):
            self.assertIs(simulated_holds(world, 0, second, 0, vocabulary, ("simulated", pairs)), True, pairs)
        wrong = [
            (), ((0, 0),), ((1, 0),), ((1, 0), (0, 0)), ((0, 0), (1, 0), (1, 0)), ((0, 0), (1, 2)), ((0, 0), (1, 0), (1, 2)),
            ((0, 0), (1, 0), (3, 0)), ((0, 0), (1, 0), (2, 3)), ((-1, 0), (0, 0), (1, 0)), ((0, 0), (1, False)), ((0, 0), (True, 0)),
            ((False, 0), (1, 0)), ((0, 0, 0), (1, 0)), ((0,), (1, 0)), ([0, 0], [1, 0]), [(0, 0), (1, 0)], ((0, 0), (1, 0), ()), ((0, 0), (1, 0), 5),
            ((0, 0), (1, 0), (2, None)), ((0, 0), (1, "0")), {(0, 0): 1, (1, 0): 1}, None, ((0, 1), (1, 0)),
        ]
        for pairs in wrong:
            self.assertIs(simulated_holds(world, 0, second, 0, vocabulary, ("simulated", pairs)), False, pairs)
        self.assertIs(simulated_holds(world, 0, second, 1, vocabulary, ("simulated", ((0, 0), (1, 0)))), False)
        self.assertIs(simulated_holds(world, 0, second, 0, vocabulary, ("simulated", ((0, 0), (1, 0)), ())), False)

    def test_no_certificates(self):
        for thing in odd_values() + [(), ("simulated",), ("concept",), ("concept", A, A), ["concept", A], ("Concept", A), A, ("simulated", A)]:
            for y, second in ((0, TWO), (1, ONE)):
                self.assertIs(simulated_holds(ONE, 0, second, y, AR, thing), False, thing)
            for more in (("concept", thing), ("simulated", thing), (thing, A), ("simulated", ((0, 0), thing)), ("concept", some("r", thing))):
                self.assertIs(simulated_holds(ONE, 0, TWO, 0, AR, more), more == ("concept", some("r", A)), more)

    def test_many_certificates(self):
        source, numbers = random.Random(25), {}
        for _ in range(200):
            world, second = made_world(source), made_world(source)
            vocabulary = (tuple(w for w in "abr" if source.random() < 0.5), tuple(w for w in "as" if source.random() < 0.8))
            x, y = source.randrange(world[0]), source.randrange(second[0])
            number = round_of(world, x, second, y, vocabulary)
            if number is not None and number > 3:
                self.assertRaises(TooMany, judge_simulated, world, x, second, y, vocabulary)
            else:
                self.assert_judged(world, x, second, y, vocabulary)
            numbers[number] = numbers.get(number, 0) + 1
        self.assertTrue(all(numbers.get(k) for k in (None, 0, 1, 2, 3)), numbers)

    def test_all_small_concepts_of_both_kinds(self):
        source = random.Random(26)
        vocabulary = (("a", "b"), ("s",))
        concepts = [concept for many in range(1, 5) for concept in all_concepts(vocabulary, many)]
        for _ in range(12):
            world, second = made_world(source), made_world(source)
            x, y = source.randrange(world[0]), source.randrange(second[0])
            simulated = round_of(world, x, second, y, vocabulary) is None
            for concept in concepts:
                apart = is_in_by_words(world, concept, x) and not is_in_by_words(second, concept, y)
                wanted = apart and is_in_all(second, joined_all(weaker_by_words(concept)), [y])
                self.assertIs(simulated_holds(world, x, second, y, vocabulary, ("concept", concept)), wanted, concept)
                self.assertFalse(apart and simulated)

    def test_variants(self):
        world = (3, (("a", (1,)), ("b", (1,))), (("r", ((0, 1), (1, 2))),))
        second = (3, (("a", (1,)), ("b", (2,))), (("r", ((0, 1), (0, 2)),),))
        vocabulary = (("a", "b"), ("r",))
        simulated = judge_simulated(second, 1, world, 1, vocabulary)
        held = 0
        for other in variants(simulated):
            form = isinstance(other, tuple) and len(other) == 2 and other[0] == "simulated" and isinstance(other[1], tuple)
            form = form and all(isinstance(pair, tuple) and len(pair) == 2 for pair in other[1])
            form = form and all(type(x) is int and 0 <= x < 3 for pair in other[1] for x in pair)
            wanted = form and tuple(sorted(set(other[1]))) == other[1] and (1, 1) in other[1]
            wanted = wanted and is_simulation(second, world, vocabulary, other[1])
            held += wanted
            self.assertIs(simulated_holds(second, 1, world, 1, vocabulary, other), wanted, other)
        self.assertGreater(held, 0)
        concept = judge_simulated(world, 0, second, 0, vocabulary)
        for other in variants(concept):
            form = isinstance(other, tuple) and len(other) == 2 and other[0] == "concept" and is_concept(other[1])
            wanted = bool(form) and self.is_lean_for(world, second, vocabulary, other[1])
            self.assertIs(simulated_holds(world, 0, second, 0, vocabulary, other), wanted, other)

    def is_lean_for(self, world, second, vocabulary, concept):
        names, roles = vocabulary_of(concept)
        if not set(names) <= set(vocabulary[0]) or not set(roles) <= set(vocabulary[1]):
            return False
        if not is_in_by_words(world, concept, 0) or is_in_by_words(second, concept, 0):
            return False
        return all(is_in_by_words(second, step, 0) for step in weaker_by_words(concept))

    def test_worlds_at_the_limits(self):
        source = random.Random(27)
        for _ in range(60):
            worlds = []
            for _ in range(2):
                ties = list(itertools.product(range(6), repeat=2))
                names = [(name, tuple(x for x in range(6) if source.random() < 0.7)) for name in "abcd"]
                roles = [(role, tuple(tie for tie in ties if source.random() < 0.4)) for role in "rs"]
                worlds.append((6, tuple(row for row in names if row[1]), tuple(row for row in roles if row[1])))
            begin = time.perf_counter()
            for x, y in ((0, 1), (3, 2), (5, 5)):
                number = round_of(worlds[0], x, worlds[1], y, (("a", "b", "c", "d"), ("r", "s")))
                if number is None or number <= 3:
                    self.assert_judged(worlds[0], x, worlds[1], y, (("a", "b", "c", "d"), ("r", "s")))
            self.assertLess(time.perf_counter() - begin, 0.5)

    def test_great_concepts(self):
        # Each of the two is tied to six things with all but one of six names; only an "and" of all six names parts them.
        names = "abcdef"
        second = (7, tuple((name, tuple(k for k in range(1, 7) if k != at + 1)) for at, name in enumerate(names)),
                  (("r", tuple((0, k) for k in range(1, 7))),))
        world = (2, tuple((name, (1,)) for name in names), (("r", ((0, 1),)),))
        thing = self.assert_judged(world, 0, second, 0, (tuple(names), ("r",)))
        self.assertEqual(size_by_words(thing[1]), 7)
        long = thing[1]
        for _ in range(6):
            long = both(long, thing[1])
        self.assertIs(simulated_holds(world, 0, second, 0, (tuple(names), ("r",)), ("concept", long)), False)


def joined_all(concepts):
    found = ALL
    for concept in concepts:
        found = both(found, concept)
    return found


class WrongArgumentsTest(unittest.TestCase):

    def assert_raises_with(self, error_class, value, function, /, *rest, **more):
        with self.assertRaises(error_class) as caught:
            function(*rest, **more)
        self.assertIs(caught.exception.thing, value)

    FUNCTIONS = ((round_of, ()), (judge_simulated, ()), (simulated_holds, (("concept", A),)))

    def test_the_first_wrong_one(self):
        one, two, three, four, five = [1], [2], [3], [4], [5]
        self.assert_raises_with(BadWorld, one, greatest, one, two, three)
        self.assert_raises_with(BadWorld, two, greatest, ONE, two, three)
        self.assert_raises_with(BadVocabulary, three, greatest, ONE, TWO, three)
        self.assert_raises_with(BadWorld, two, greatest, vocabulary=three, second=two, world=ONE)
        for function, rest in self.FUNCTIONS:
            self.assert_raises_with(BadWorld, one, function, one, two, three, four, five, *rest)
            self.assert_raises_with(BadThing, two, function, ONE, two, three, four, five, *rest)
            self.assert_raises_with(BadWorld, three, function, ONE, 0, three, four, five, *rest)
            self.assert_raises_with(BadThing, four, function, ONE, 0, TWO, four, five, *rest)
            self.assert_raises_with(BadVocabulary, five, function, ONE, 0, TWO, 0, five, *rest)
        self.assert_raises_with(BadThing, two, round_of, vocabulary=five, y=four, second=three, x=two, world=ONE)
        self.assert_raises_with(BadThing, four, judge_simulated, vocabulary=five, y=four, second=TWO, x=1, world=ONE)
        self.assert_raises_with(BadVocabulary, five, simulated_holds, thing=(), vocabulary=five, y=0, second=TWO, x=1, world=ONE)

    def test_things(self):
        wrong = [2, -1, 10 ** 39, True, False, None, "0", (0,), [0], {}, A, (), BadThing(0)]
        for function, rest in self.FUNCTIONS:
            for thing in wrong:
                self.assert_raises_with(BadThing, thing, function, ONE, thing, TWO, 0, AR, *rest)
                self.assert_raises_with(BadThing, thing, function, TWO, 0, ONE, thing, AR, *rest)
            self.assert_raises_with(BadThing, 1, function, TWO, 1, ONE, 1, AR, *rest)
            self.assert_raises_with(BadThing, 1, function, ONE, 1, TWO, 1, AR, *rest)

    def test_all_kinds_of_wrong_values(self):
        for thing in odd_values() + [(), (1, ()), (0, (), ()), (1, (("a", ()),), ())]:
            self.assert_raises_with(BadWorld, thing, greatest, thing, ONE, AR)
            self.assert_raises_with(BadWorld, thing, greatest, ONE, thing, AR)
            for function, rest in self.FUNCTIONS:
                self.assert_raises_with(BadWorld, thing, function, thing, 0, ONE, 0, AR, *rest)
                self.assert_raises_with(BadWorld, thing, function, ONE, 0, thing, 0, AR, *rest)
        for thing in odd_values() + [(), ((), (), ()), (("b", "a"), ()), (("a", "a"), ()), ((), ("all",)), A]:
            self.assert_raises_with(BadVocabulary, thing, greatest, ONE, TWO, thing)
            for function, rest in self.FUNCTIONS:
                self.assert_raises_with(BadVocabulary, thing, function, ONE, 0, TWO, 0, thing, *rest)

    def test_by_name(self):
        self.assertEqual(greatest(vocabulary=((), ("r",)), second=TWO, world=ONE), ((0, 0), (1, 0)))
        self.assertEqual(round_of(vocabulary=AR, y=0, second=TWO, x=0, world=ONE), 1)
        self.assertEqual(judge_simulated(vocabulary=AR, y=0, second=TWO, x=0, world=ONE), ("concept", some("r", A)))
        self.assertIs(simulated_holds(thing=("concept", some("r", A)), vocabulary=AR, y=0, second=TWO, x=0, world=ONE), True)

    def test_what_is_passed_stays_and_answers_repeat(self):
        for thing in (["concept", A], ("concept", ["word", "a"]), ("simulated", [(0, 0)]), ("simulated", ([0, 0], {})), {"concept": [A]}):
            before = copy.deepcopy(thing)
            self.assertIs(simulated_holds(ONE, 0, TWO, 0, AR, thing), False)
            self.assertEqual(thing, before)
        source = random.Random(28)
        for _ in range(20):
            world, second = made_world(source), made_world(source)
            vocabulary = (("a", "b"), ("s",))
            again = copy.deepcopy((world, second, vocabulary))
            self.assertEqual(greatest(world, second, vocabulary), greatest(*again))
            if (round_of(world, 0, second, 0, vocabulary) or 0) < 4:
                self.assertEqual(judge_simulated(world, 0, second, 0, vocabulary), judge_simulated(again[0], 0, again[1], 0, again[2]))

    def test_defined_in_the_file(self):
        for name in ("weaker", "greatest", "round_of", "judge_simulated", "simulated_holds"):
            self.assertEqual(getattr(looks, name).__module__, "tellalike.looks")


if __name__ == "__main__":
    unittest.main()
