"""tellalike.data: data, places, views, the data of a concept, and certificates for all data."""

import copy
import random
import time
import unittest

from certificates import (
    are_places_by_words, data_of_by_words, faults_of_data, faults_of_table, is_view_by_words, things_by_words, view_concept_by_words,
)
from oracles import concept_of_size, made_book, made_world
from samples import A, ALL, B, C, NONE, both, odd_values, some, variants
from tellalike import data as data_module
from tellalike.concepts import is_word, read_book, read_concept, size
from tellalike.covering import judge_cover
from tellalike.data import (
    are_places, data_holds, data_of, does_tell_of, is_data, is_view, judge_data, judge_thing, thing_holds, things_of, view_concept,
)
from tellalike.errors import BadBook, BadConcept, BadData, BadThing, BadView, BadVocabulary, BadWorld, TooMany
from tellalike.telling import does_tell
from tellalike.worlds import is_world

DATA = (("is", "x", "a"), ("tie", "x", "r", "y"))
RING = (("is", "x", "a"), ("is", "x", "b"), ("is", "y", "b"), ("there", "z"), ("tie", "x", "r", "y"), ("tie", "y", "r", "x"), ("tie", "y", "s", "y"))


def made_data(source, things="xyz", facts=6, names="abc", roles="rs"):
    found = set()
    for _ in range(facts):
        kind, thing = source.random(), source.choice(things)
        if kind < 0.1:
            found.add(("there", thing))
        elif kind < 0.45:
            found.add(("is", thing, source.choice(names)))
        else:
            found.add(("tie", thing, source.choice(roles), source.choice(things)))
    return tuple(sorted(found))


def is_data_by_words(thing):
    if not isinstance(thing, tuple):
        return False
    for fact in thing:
        if not isinstance(fact, tuple) or not fact or not all(is_word(word) for word in fact[1:]):
            return False
        if fact[0] not in ("there", "is", "tie") or len(fact) != {"there": 2, "is": 3, "tie": 4}[fact[0]]:
            return False
    return list(thing) == sorted(set(thing))


class DataTest(unittest.TestCase):

    def test_the_example(self):
        tied = some("r", ALL)
        book = ((tied, C),)
        self.assertEqual(things_of(DATA), ("x", "y"))
        self.assertIs(does_tell_of(book, DATA, "x", C), True)
        self.assertEqual(judge_thing(book, DATA, "y", C)[0], "world")
        self.assertEqual(view_concept(("x", ("a",), (("r", ("y", (), ())),))), both(A, tied))
        self.assertIs(thing_holds(book, DATA, "x", C, ("told", ("x", (), (("r", ("y", (), ())),)), (("axiom", 0),))), True)
        self.assertEqual(data_of(both(A, some("r", B))), (("is", "a", "a"), ("is", "b", "b"), ("there", "a"), ("there", "b"), ("tie", "a", "r", "b")))
        self.assertEqual(judge_data((), book, (("c",), ("r",)))[0], "data")

    def test_data(self):
        for thing in ((), DATA, RING, (("there", "x"),), (("is", "x", "x"),), (("tie", "x", "x", "x"),), DATA[:1], DATA[1:]):
            self.assertIs(is_data(thing), True, thing)
            self.assertIs(is_data(thing=thing), True, thing)
        wrong = [
            DATA[::-1], DATA[:1] * 2, list(DATA), (list(DATA[0]),) + DATA[1:], (("is", "x"),), (("is", "x", "a", "b"),), (("there",),), (("there", "x", "y"),),
            (("tie", "x", "r"),), (("tie", "x", "r", "y", "z"),), (("is", "all", "a"),), (("is", "x", "none"),), (("tie", "x", "some", "y"),),
            (("tie", "x", "r", "and"),), (("there", "each"),), (("is", "X", "a"),), (("is", "x", ""),), (("is", "x", "abcdefghijk"),), (("has", "x", "a"),),
            ((None, "x"),), (("is", "x", None),), (("is", "x", ["a"]),), (("is", "x", ("a",)),), (("is", ("x",), "a"),), ((),), ("is", "x", "a"), ((["is"], "x", "a"),),
            (("there", 1),), (("there", True),), (("tie", "x", "r", 0),), ((DATA,),), (DATA,), DATA + ((),), DATA + (None,), (("word", "a"),), ((1, "x"),),
        ]
        for thing in wrong + odd_values():
            self.assertIs(is_data(thing), False, thing)
            with self.assertRaises(BadData) as caught:
                things_of(thing)
            self.assertIs(caught.exception.thing, thing)

    def test_variants_of_data(self):
        answers = {True: 0, False: 0}
        for thing in variants(RING[2:6]):
            wanted = is_data_by_words(thing)
            answers[wanted] += 1
            self.assertIs(is_data(thing), wanted, thing)
        self.assertGreater(min(answers.values()), 10)

    def test_things(self):
        self.assertEqual(things_of(()), ())
        self.assertEqual(things_of(RING), ("x", "y", "z"))
        self.assertEqual(things_of((("there", "b"), ("tie", "c", "a", "a"))), ("a", "b", "c"))
        self.assertEqual(things_of(data=(("is", "x", "y"),)), ("x",))
        source = random.Random(61)
        for _ in range(50):
            data = made_data(source, "uvwxyz", 9)
            self.assertEqual(things_of(data), tuple(things_by_words(data)))


class PlacesTest(unittest.TestCase):

    WORLD = (3, (("a", (0, 1)), ("b", (1, 2))), (("r", ((0, 1), (1, 1))), ("s", ((1, 1), (1, 2)))))

    def test_places(self):
        for thing, wanted in (((("x", 0), ("y", 1)), True), ((("x", 1), ("y", 1)), True), ((("x", 1), ("y", 2)), False), ((("x", 2), ("y", 1)), False)):
            self.assertIs(are_places(DATA, self.WORLD, thing), wanted, thing)
            self.assertIs(are_places(thing=thing, world=self.WORLD, data=DATA), wanted, thing)
        self.assertIs(are_places(RING, self.WORLD, (("x", 1), ("y", 1), ("z", 0))), True)
        self.assertIs(are_places(RING, self.WORLD, (("x", 1), ("y", 1), ("z", 2))), True)
        self.assertIs(are_places(RING, self.WORLD, (("x", 1), ("y", 1), ("z", 3))), False)
        self.assertIs(are_places(RING, self.WORLD, (("x", 1), ("y", 1))), False)
        self.assertIs(are_places((), self.WORLD, ()), True)
        self.assertIs(are_places((("is", "x", "c"),), self.WORLD, (("x", 0),)), False)
        self.assertIs(are_places((("tie", "x", "q", "x"),), self.WORLD, (("x", 1),)), False)
        self.assertIs(are_places((("tie", "x", "s", "x"),), self.WORLD, (("x", 1),)), True)

    def test_no_places(self):
        wrong = [
            (("y", 1), ("x", 0)), (("x", 0), ("x", 0), ("y", 1)), (("x", 0), ("x", 1), ("y", 1)), (("x", 0),), (), (("x", 0), ("y", 1), ("z", 1)),
            (("x", 0), ("y", True)), (("x", False), ("y", 1)), (("x", 0), ("y", -1)), (("x", 0), ("y", 3)), (("x", 0), ("y", "1")), (("x", 0), ("y", None)),
            [("x", 0), ("y", 1)], (["x", 0], ("y", 1)), (("x", 0), ("y", 1, 1)), (("x", 0), ("y",)), (("x", 0), "y"), {"x": 0, "y": 1}, (("x", 0), ("y", (1,))),
            (("x", 0), (["y"], 1)), ((0, "x"), (1, "y")), (("x", 0), ("y", 10 ** 39)), ((("x",), 0), ("y", 1)),
        ]
        for thing in wrong + odd_values():
            self.assertIs(are_places(DATA, self.WORLD, thing), False, thing)
        for thing in odd_values():
            self.assertIs(are_places((), self.WORLD, thing), False, thing)

    def test_many_places(self):
        source, answers = random.Random(62), {True: 0, False: 0}
        for _ in range(1500):
            world, data = made_world(source), made_data(source, "xyz", 3, "abr", "as")
            places = tuple((thing, source.randrange(world[0])) for thing in things_by_words(data))
            wanted = are_places_by_words(data, world, places)
            answers[wanted] += 1
            self.assertIs(are_places(data, world, places), wanted)
        self.assertGreater(min(answers.values()), 100)


class ViewsTest(unittest.TestCase):

    def test_views(self):
        y = ("y", (), ())
        right = [
            ("x", (), ()), ("x", ("a",), ()), ("x", ("a", "b"), ()), ("x", (), (("r", y),)), ("x", ("b",), (("r", y), ("r", y))),
            ("x", (), (("r", ("y", ("b",), (("r", ("x", ("a",), (("r", y),))), ("s", y)))),)), ("x", (), (("r", ("y", (), (("s", y), ("r", ("x", (), ()))))),)),
        ]
        for view in right:
            self.assertIs(is_view(RING, "x", view), True, view)
            self.assertIs(is_view(thing=view, x="x", data=RING), True, view)
            self.assertIs(is_view(RING, "y", view), False, view)
        wrong = [
            y, ("x", ("b", "a"), ()), ("x", ("a", "a"), ()), ("x", ("c",), ()), ("x", (), (("s", y),)), ("x", (), (("r", ("x", (), ())),)),
            ("x", (), (("r", ("y", ("a",), ())),)), ("x", (), (("r", ("y", (), (("s", ("x", (), ())),))),)), ["x", (), ()], ("x", [], ()), ("x", (), []),
            ("x", (), (["r", y],)), ("x", (), (("r", list(y)),)), ("x", (), (("r", y, y),)), ("x", (), (("r",),)), ("x", (), ("r", y)), ("x", ()), ("x", (), (), ()),
            ("x", "a", ()), ("x", (), (("r", "y"),)), ("x", (), (("r", None),)), ("x", (None,), ()), ("x", (("a",),), ()), ("x", (["a"],), ()), (["x"], (), ()),
            ("z", ("a",), ()), ("x", None, ()), ("x", (), None), ("x", (True,), ()), ("x", (), (("r", ()),)), ("x", (), (([], y),)), ("w", (), ()),
            ("x", (), (("r", ([], (), ())),)),
        ]
        for thing in wrong + odd_values() + [()]:
            self.assertIs(is_view(RING, "x", thing), False, thing)
        self.assertIs(is_view(RING, "z", ("z", (), ())), True)

    def test_views_that_are_wrong_at_each_depth(self):
        for depth in range(6):
            thing, aside = ("x", "y") if depth % 2 == 0 else ("y", "x")
            self.assertIs(is_view(RING, "x", around_ring(depth, (thing, ("b",), ()))), True)
            for inner in ((aside, (), ()), (thing, ("c",), ()), (thing, ("b", "b"), ()), [thing, (), ()], (thing, (), (("q", (thing, (), ())),)), None):
                self.assertIs(is_view(RING, "x", around_ring(depth, inner)), False, (depth, inner))

    def test_variants_of_views(self):
        view = ("x", ("a", "b"), (("r", ("y", ("b",), (("r", ("x", (), ())), ("s", ("y", (), ()))))),))
        answers = {True: 0, False: 0}
        for thing in variants(view):
            wanted = has_form(thing) and is_view_by_words(RING, "x", thing)
            answers[wanted] += 1
            self.assertIs(is_view(RING, "x", thing), wanted, thing)
            if has_form(thing):
                self.assertEqual(view_concept(thing), view_concept_by_words(thing))
            else:
                with self.assertRaises(BadView) as caught:
                    view_concept(thing)
                self.assertIs(caught.exception.thing, thing)
        self.assertGreater(min(answers.values()), 10)

    def test_view_concepts(self):
        for view, text in ((("x", (), ()), "all"), (("x", ("a",), ()), "a"), (("x", ("a", "b", "c"), ()), "((a and b) and c)"),
                           (("x", (), (("r", ("y", (), ())),)), "some r all"), (("x", ("a",), (("s", ("y", ("b",), ())), ("r", ("y", (), ())))), "((a and some s b) and some r all)"),
                           (("x", (), (("r", ("x", (), (("r", ("x", ("a",), ())),))), ("r", ("x", (), ())))), "(some r some r a and some r all)")):
            self.assertEqual(view_concept(view), read_concept(text))
            self.assertEqual(view_concept(view=view), read_concept(text))

    def test_views_of_any_size(self):
        wide = ("x", tuple(sorted({a + b for a in "bcdefgh" for b in "bcdefgh"})), (("r", ("y", (), ())),) * 300)
        concept = view_concept(wide)
        self.assertEqual((size(concept), concept[0], concept[2]), (49 + 600, "and", some("r", ALL)))
        deep = ("x", (), ())
        for _ in range(600):
            deep = ("x", ("a",), (("r", deep),))
        concept = view_concept(deep)
        self.assertEqual(size(concept), 1201)
        for _ in range(600):
            self.assertEqual(concept[:2], ("and", A))
            concept = concept[2][2]
        self.assertEqual(concept, ALL)
        self.assertIs(is_view((("is", "x", "a"), ("tie", "x", "r", "x")), "x", deep), True)
        self.assertIs(is_view((("is", "x", "b"), ("tie", "x", "r", "x")), "x", deep), False)

    def test_no_views(self):
        for thing in odd_values() + [(), ("x",), ("x", ()), ("all", (), ()), ("x", ("b", "a"), ()), ("x", ("none",), ()), ("x", (), (("is", ("y", (), ())),)),
                                     ("x", (), (("r", ("y", (), (("r", ("each", (), ())),))),)), ("x", (), (("r", ("y", ("b", "b"), ())),)), ["x", (), ()], A, DATA]:
            with self.assertRaises(BadView) as caught:
                view_concept(thing)
            self.assertIs(caught.exception.thing, thing)

    def test_the_thing_comes_before_the_view(self):
        for x in odd_values() + ["w", ("x",), ["x"], "X", "all"]:
            with self.assertRaises(BadThing) as caught:
                is_view(RING, x, ("x", (), ()))
            self.assertIs(caught.exception.thing, x)


def around_ring(depth, inner):
    """A view of x that goes around the ring x, y, x, .. to the given depth, where it has the inner one."""
    view = inner
    for k in reversed(range(depth)):
        view = (("x", "y")[k % 2], ("b",), (("r", view),))
    return view


def has_form(thing):
    """Whether thing is a view in some data."""
    if not isinstance(thing, tuple) or len(thing) != 3 or not is_word(thing[0]) or not all(isinstance(part, tuple) for part in thing[1:]):
        return False
    if not all(is_word(name) for name in thing[1]) or list(thing[1]) != sorted(set(thing[1])):
        return False
    return all(isinstance(branch, tuple) and len(branch) == 2 and is_word(branch[0]) and has_form(branch[1]) for branch in thing[2])


class DataOfTest(unittest.TestCase):

    def test_simple_concepts(self):
        self.assertEqual(data_of(ALL), (("there", "a"),))
        self.assertEqual(data_of(B), (("is", "a", "b"), ("there", "a")))
        self.assertEqual(data_of(both(both(A, A), ALL)), (("is", "a", "a"), ("there", "a")))
        self.assertEqual(data_of(concept=some("r", ALL)), (("there", "a"), ("there", "b"), ("tie", "a", "r", "b")))

    def test_the_order_of_the_things(self):
        found = data_of(read_concept("((some r some s a and some q b) and some r (c and some s all))"))
        self.assertEqual([fact for fact in found if fact[0] != "there"], [
            ("is", "c", "a"), ("is", "d", "b"), ("is", "e", "c"), ("tie", "a", "q", "d"), ("tie", "a", "r", "b"), ("tie", "a", "r", "e"),
            ("tie", "b", "s", "c"), ("tie", "e", "s", "f"),
        ])
        self.assertEqual([fact[1] for fact in found if fact[0] == "there"], list("abcdef"))

    def test_many_concepts(self):
        source = random.Random(63)
        for _ in range(300):
            concept = concept_of_size(source, source.randint(1, 25), odd=0)
            found = data_of(concept)
            self.assertEqual(found, data_of_by_words(concept))
            self.assertIs(is_data(found), True)

    def test_twenty_five_roles_and_more(self):
        chain, wide = A, some("r", A)
        for k in range(25):
            chain = some("r", chain)
            wide = both(wide, some("s", B)) if k < 24 else wide
        for concept in (chain, wide):
            found = data_of(concept)
            self.assertEqual(found, data_of_by_words(concept))
            self.assertEqual(things_of(found), tuple("abcdefghijklmnopqrstuvwxyz"))
        more = chain
        for _ in range(300):
            more = some("r", more)
        self.assertEqual(len(things_of(data_of(more))), 326)
        self.assertIs(is_data(data_of(more)), True)

    def test_none(self):
        for concept in (NONE, both(A, NONE), some("r", NONE), some("r", both(B, some("r", both(NONE, ALL))))):
            with self.assertRaises(BadConcept) as caught:
                data_of(concept)
            self.assertIs(caught.exception.thing, concept)

    def test_data_and_sentences(self):
        """[8.6]: a concept is told of a in the data of another one exactly if the sentence is told."""
        source, answers = random.Random(64), {True: 0, False: 0}
        for _ in range(400):
            book = made_book(source, source.randint(1, 4), 4)
            left, right = concept_of_size(source, source.randint(1, 6), odd=0), concept_of_size(source, source.randint(1, 4))
            try:
                told = does_tell_of(book, data_of(left), "a", right)
            except TooMany:
                told = True
            answers[told] += 1
            self.assertIs(told, does_tell(book, left, right))
        self.assertGreater(min(answers.values()), 50)


class AllDataTest(unittest.TestCase):

    WORDS = (("a", "b"), ("r",))

    def test_both_kinds(self):
        source, kinds = random.Random(65), {}
        for _ in range(300):
            other = made_book(source, source.randint(1, 4), 4, odd=0.08)
            one = other[1:] if source.random() < 0.7 else made_book(source, 2, 3)
            vocabulary = source.choice((self.WORDS, (("a", "b", "c"), ()), (("a",), ("r", "s")), ((), ("r",))))
            try:
                cover = judge_cover(one, other, vocabulary)
            except TooMany:
                continue
            found = judge_data(one, other, vocabulary)
            kinds[found[0]] = kinds.get(found[0], 0) + 1
            self.assertEqual(found[0], {"covered": "covered", "sentence": "data"}[cover[0]])
            if found[0] == "covered":
                self.assertEqual(faults_of_table(one, other, vocabulary, *found[1:]), [])
            else:
                self.assertEqual((len(found), faults_of_data(one, other, vocabulary, found)), (6, []))
                self.assertIs(data_holds(other, one, vocabulary, found), False)
            self.assertIs(data_holds(one, other, vocabulary, found), True)
            self.assertIs(data_holds(thing=cover, vocabulary=vocabulary, other=other, one=one), cover[0] == "covered")
        self.assertGreater(min(kinds["covered"], kinds["data"]), 40, kinds)

    def test_what_covering_says_of_drawn_data(self):
        """[8.7]: a book that covers another one tells of each thing what the other one tells."""
        source, told, parted = random.Random(66), 0, 0
        for _ in range(200):
            other = made_book(source, 3, 4, names="ab", odd=0.03)
            one = other[1:] if source.random() < 0.6 else other[:1] + made_book(source, 2, 3, names="ab")
            try:
                covered = judge_data(one, other, self.WORDS)[0] == "covered"
            except TooMany:
                continue
            for _ in range(8):
                data = made_data(source, "xy", 4, "ab", "r")
                x, concept = source.choice(things_of(data)), concept_of_size(source, source.randint(1, 4), "ab", "r")
                try:
                    if does_tell_of(other, data, x, concept):
                        told += 1
                        parted += not does_tell_of(one, data, x, concept)
                        self.assertTrue(does_tell_of(one, data, x, concept) or not covered)
                except TooMany:
                    pass
        self.assertGreater(told, 100)
        self.assertGreater(parted, 10)

    BOOK = ((A, some("r", B)), (some("r", B), C))

    def data(self, facts=(("is", "x", "a"),), thing="x", d=C, told=None, world=None):
        told = told or ("told", ("x", ("a",), ()), (("axiom", 0), ("axiom", 1), ("chain", 0, 1)))
        return ("data", facts, thing, d, told, world or ("world", (1, (("a", (0,)),), ()), (("x", 0),)))

    def test_certificates_of_others(self):
        words = (("a", "c"), ("r",))
        self.assertIs(data_holds((), self.BOOK, words, self.data()), True)
        more = (("is", "x", "a"), ("is", "y", "c"), ("tie", "x", "r", "y"))
        world = ("world", (2, (("a", (0,)), ("c", (1,))), (("r", ((0, 1), (1, 1))),)), (("x", 0), ("y", 1)))
        self.assertIs(data_holds((), self.BOOK, words, self.data(facts=more, world=world)), True)
        self.assertIs(data_holds((), self.BOOK, words, self.data(facts=more)), False)
        self.assertIs(data_holds((), self.BOOK, words, self.data(facts=more, world=world, thing="y")), False)
        for wrong in (self.data(facts=(("is", "x", "b"),)), self.data(thing="y"), self.data(thing=["x"]), self.data(d=A), self.data(d=B), self.data(d=("word", "all")),
                      self.data(facts=list(self.data()[1])), self.data(facts=()), self.data() + (0,), self.data()[:5], list(self.data()), self.data()[1:],
                      self.data(told=self.data()[5], world=self.data()[4]), self.data(told=("clash",) + self.data()[4][1:]), self.data(thing=None), self.data(facts=None),
                      self.data(world=("world", (1, (("a", (0,)), ("c", (0,))), ()), (("x", 0),))), self.data(world=self.data()[5] + (0,)), self.data(told=("told",)),
                      self.data(world=("world", (1, (("a", (0,)),), ()), (("x", False),))), ("covered",) + self.data()[1:], self.data(d=some("r", B))):
            self.assertIs(data_holds((), self.BOOK, words, wrong), False, wrong)
        for vocabulary, wanted in (((("a", "c"), ()), True), ((("a",), ("r",)), False), ((("c",), ("r",)), False), ((("a", "b", "c"), ("r", "s")), True)):
            self.assertIs(data_holds((), self.BOOK, vocabulary, self.data()), wanted)
        self.assertIs(data_holds((), self.BOOK, (("a", "c"), ()), self.data(facts=more, world=world)), False)
        self.assertIs(data_holds(self.BOOK, self.BOOK, words, self.data()), False)
        self.assertIs(data_holds((), (), words, self.data()), False)

    def test_a_clash(self):
        book = read_book("each (a and b) is none")
        facts = (("is", "x", "a"), ("is", "x", "b"), ("there", "y"))
        clash = ("clash", ("x", ("a", "b"), ()), (("axiom", 0),))
        world = ("world", (1, (("a", (0,)), ("b", (0,))), ()), (("x", 0), ("y", 0)))
        thing = ("data", facts, "y", C, clash, world)
        self.assertIs(data_holds((), book, (("a", "b", "c"), ()), thing), True)
        self.assertIs(data_holds((), book, (("a", "b"), ()), thing), False)
        self.assertIs(data_holds((), book, (("a", "b", "c"), ()), thing[:4] + (("told",) + clash[1:],) + thing[5:]), False)
        for x in ("z", "w", None, ["y"], 0):
            self.assertIs(data_holds((), book, (("a", "b", "c"), ()), thing[:2] + (x,) + thing[3:]), False)
        found = judge_data((), book, (("a", "b"), ()))
        self.assertEqual((found[0], found[3]), ("data", NONE))

    def test_no_too_many_for_the_depth(self):
        chain = read_book("each some r some r some r some r all is m\neach some r some r some r some r m is n\neach some r some r some r n is none")
        found = judge_data((), chain, ((), ("r",)))
        self.assertEqual((found[0], len(things_of(found[1]))), ("data", 12))
        self.assertIs(data_holds((), chain, ((), ("r",)), found), True)
        self.assertEqual(faults_of_data((), chain, ((), ("r",)), found), [])
        with self.assertRaises(TooMany) as caught:
            judge_thing(chain, found[1], "a", NONE)
        self.assertEqual(caught.exception.bound, 4)
        with self.assertRaises(TooMany) as caught:
            judge_data((), chain[:2] + read_book("each some r some r some r some r n is none"), ((), ("r",)))
        self.assertEqual(caught.exception.bound, 12)

    def test_variants(self):
        words = (("a", "c"), ("r",))
        right = 0
        for thing in variants(self.data()):
            wanted = isinstance(thing, tuple) and len(thing) == 6 and thing[0] == "data" and is_data_by_words(thing[1]) and self.is_form(*thing[4:])
            wanted = wanted and not faults_of_data((), self.BOOK, words, thing)
            right += wanted
            self.assertIs(data_holds((), self.BOOK, words, thing), wanted, thing)
        self.assertGreater(right, 2)

    def is_form(self, told, world):
        if not isinstance(told, tuple) or not isinstance(world, tuple) or len(told) != 3 or len(world) != 3 or not has_form(told[1]):
            return False
        places = world[2]
        if not isinstance(places, tuple) or not all(isinstance(row, tuple) and len(row) == 2 and type(row[1]) is int for row in places):
            return False
        return is_world(world[1])

    def test_other_values(self):
        table = judge_data(self.BOOK, self.BOOK, self.WORDS)
        for thing in odd_values() + [(), ("data",), ("covered",), table[:2], table + (0,), list(table), ("covers",) + table[1:], ("data",) + table[1:], (None,) + table[1:],
                                     judge_cover((), self.BOOK, self.WORDS)]:
            self.assertIs(data_holds((), self.BOOK, self.WORDS, thing), False, thing)
            self.assertIs(data_holds(self.BOOK, self.BOOK, self.WORDS, thing), False, thing)
            for more in (("data", thing, "x", C, (), ()), ("data", (), thing, C, (), ()), self.data(facts=thing), self.data(thing=thing), self.data(d=thing),
                         self.data()[:4] + (thing,) + self.data()[5:], self.data()[:5] + (thing,), ("covered", thing, table[2]), ("covered", table[1], thing)):
                self.assertIs(data_holds((), self.BOOK, (("a", "c"), ("r",)), more), False, more)

    def test_the_same_table_as_in_part_7(self):
        table = judge_cover(self.BOOK, self.BOOK, self.WORDS)
        self.assertIs(data_holds(self.BOOK, self.BOOK, self.WORDS, table), True)
        self.assertIs(data_holds(self.BOOK, self.BOOK, self.WORDS, (table[0], table[1], table[2][:-1])), False)
        self.assertIs(data_holds((), self.BOOK, (("b", "c"), ()), judge_cover((), self.BOOK, (("b", "c"), ()))), True)


class WrongArgumentsTest(unittest.TestCase):

    def assert_raises_with(self, error_class, value, function, /, *rest, **more):
        with self.assertRaises(error_class) as caught:
            function(*rest, **more)
        self.assertIs(caught.exception.thing, value)

    def test_the_first_wrong_one(self):
        one, two, three, four, five = [1], [2], [3], [4], [5]
        self.assert_raises_with(BadData, one, are_places, one, two, three)
        self.assert_raises_with(BadWorld, two, are_places, DATA, two, three)
        self.assert_raises_with(BadData, one, is_view, one, two, three)
        self.assert_raises_with(BadThing, two, is_view, DATA, two, three)
        self.assert_raises_with(BadThing, two, is_view, thing=three, x=two, data=DATA)
        for function, rest in ((judge_thing, ()), (does_tell_of, ()), (thing_holds, (five,))):
            self.assert_raises_with(BadBook, one, function, one, two, three, four, *rest)
            self.assert_raises_with(BadData, two, function, (), two, three, four, *rest)
            self.assert_raises_with(BadThing, three, function, (), DATA, three, four, *rest)
            self.assert_raises_with(BadConcept, four, function, (), DATA, "x", four, *rest)
        self.assert_raises_with(BadThing, three, judge_thing, concept=four, x=three, data=DATA, book=())
        for function, rest in ((judge_data, ()), (data_holds, (five,))):
            self.assert_raises_with(BadBook, one, function, one, two, three, *rest)
            self.assert_raises_with(BadBook, two, function, (), two, three, *rest)
            self.assert_raises_with(BadVocabulary, three, function, (), (), three, *rest)
        self.assert_raises_with(BadConcept, one, data_of, one)
        self.assert_raises_with(BadConcept, one, data_of, concept=one)
        self.assert_raises_with(BadView, one, view_concept, view=one)
        self.assert_raises_with(BadData, one, things_of, data=one)

    def test_no_things_in_no_data(self):
        for thing in odd_values() + ["x", "a"]:
            self.assert_raises_with(BadThing, thing, judge_thing, (), (), thing, A)
            self.assert_raises_with(BadThing, thing, is_view, (), thing, ("x", (), ()))

    def test_what_is_passed_stays_and_answers_repeat(self):
        for thing in (["told", ("x", (), ()), [("axiom", 0)]], ("told", ["x", [], []], []), ("world", [1, [], []], [["x", 0]]), {"x": [0]}):
            before = copy.deepcopy(thing)
            self.assertIs(thing_holds((), DATA, "x", A, thing), False)
            self.assertIs(are_places(DATA, (1, (), ()), thing), False)
            self.assertIs(is_view(DATA, "x", thing), False)
            self.assertIs(is_data(thing), False)
            self.assertIs(data_holds((), (), ((), ()), thing), False)
            self.assertEqual(thing, before)
        source = random.Random(67)
        for _ in range(30):
            arguments = (made_book(source, 3, 4), RING, "x", concept_of_size(source, 3))
            before = copy.deepcopy(arguments)
            try:
                self.assertEqual(judge_thing(*arguments), judge_thing(*copy.deepcopy(arguments)))
            except TooMany:
                self.assertRaises(TooMany, judge_thing, *copy.deepcopy(arguments))
            self.assertEqual(arguments, before)

    def test_defined_in_the_file(self):
        for name in ("is_data", "things_of", "are_places", "is_view", "view_concept", "data_of", "judge_thing", "thing_holds", "does_tell_of",
                     "judge_data", "data_holds"):
            self.assertEqual(getattr(data_module, name).__module__, "tellalike.data")


class LimitsTest(unittest.TestCase):

    def test_books_at_the_limits(self):
        source, slowest, kinds = random.Random(68), 0, set()
        for k in range(40):
            other = made_book(source, 6, 5, names="abcdef", odd=(0.02, 0.1)[k % 2])
            for vocabulary in ((("a", "b", "c", "d"), ("r", "s")), (("a", "b"), ("r",))):
                begin = time.perf_counter()
                try:
                    found = judge_data(other[:-1], other, vocabulary)
                    kinds.add(found[0])
                    self.assertIs(data_holds(other[:-1], other, vocabulary, found), True)
                except TooMany as error:
                    kinds.add(error.bound)
                slowest = max(slowest, time.perf_counter() - begin)
        self.assertLess(slowest, 1)
        self.assertTrue({"data", "covered"} <= kinds)


if __name__ == "__main__":
    unittest.main()
