"""tellalike.data: what a book tells of a thing of data, at each depth, and the certificates for it."""

import random
import time
import unittest

from certificates import depth_by_words, faults_of_answer, view_concept_by_words, view_depth
from oracles import concept_of_size, made_book
from samples import A, ALL, B, C, NONE, both, odd_values, some, variants
from tellalike.concepts import read_book, read_concept
from tellalike.data import does_tell_of, is_view, judge_thing, thing_holds, things_of, view_concept
from tellalike.errors import BadConcept, TooMany
from tellalike.lines import lines_hold
from tellalike.telling import judge_told
from tellalike.worlds import is_world
from test_data import has_form, made_data

# Each depth has one more of d, e, f, g, h at the head of a path of ties.
STEPS = read_book("each a is b\neach some r b is c\neach some r c is d\neach some r d is e\neach some r e is f\neach some r f is g")
PATH = tuple(sorted([("is", "u", "a")] + [("tie", above, "r", below) for above, below in zip("zyxwv", "yxwvu")]))


def is_answer(book, data, x, concept, thing):
    """Whether any value is a certificate of [8.4], slowly."""
    if not isinstance(thing, tuple) or len(thing) != 3 or thing[0] not in ("told", "clash", "world"):
        return False
    if thing[0] != "world":
        return has_form(thing[1]) and not faults_of_answer(book, data, x, concept, thing)
    places = thing[2]
    if not is_world(thing[1]) or not isinstance(places, tuple):
        return False
    if not all(isinstance(row, tuple) and len(row) == 2 and isinstance(row[0], str) and type(row[1]) is int for row in places):
        return False
    return not faults_of_answer(book, data, x, concept, thing)


class DepthsTest(unittest.TestCase):

    def judged(self, book, data, x, concept):
        """The certificate, which is looked at clause by clause; 4 if TooMany is raised."""
        try:
            found = judge_thing(book, data, x, concept)
        except TooMany as error:
            for call in (lambda: does_tell_of(book, data, x, concept), lambda: does_tell_of(concept=concept, x=x, data=data, book=book)):
                self.assertRaises(TooMany, call)
            for thing in odd_values() + [(), ("told", (x, (), ()), ()), ("world", (1, (), ()), ((x, 0),))]:
                with self.assertRaises(TooMany) as caught:
                    thing_holds(book, data, x, concept, thing)
                self.assertEqual(caught.exception.bound, 4)
            return error.bound
        self.assertEqual(faults_of_answer(book, data, x, concept, found), [])
        self.assertIs(thing_holds(book, data, x, concept, found), True)
        self.assertIs(thing_holds(thing=found, concept=concept, x=x, data=data, book=book), True)
        self.assertIs(does_tell_of(book, data, x, concept), found[0] != "world")
        return found

    def test_each_depth(self):
        for depth, (x, name) in enumerate(zip("uvwxy", "bcdef")):
            found = self.judged(STEPS, PATH, x, ("word", name))
            self.assertEqual(depth_by_words(STEPS, PATH, x, ("word", name)), depth)
            self.assertEqual((found[0], view_depth(found[1])), ("told", depth))
        self.assertEqual(depth_by_words(STEPS, PATH, "z", ("word", "g")), 5)
        self.assertEqual(self.judged(STEPS, PATH, "z", ("word", "g")), 4)
        for x, name in (("u", "c"), ("z", "f"), ("y", "g"), ("w", "a"), ("z", "h")):
            self.assertEqual(self.judged(STEPS, PATH, x, ("word", name))[0], "world")

    def test_the_parts_of_what_is_asked_count(self):
        for many in range(1, 5):
            concept = read_concept("some r " * many + "a")
            x = "uvwxyz"[many]
            self.assertEqual(view_depth(self.judged((), PATH, x, concept)[1]), many)
        self.assertEqual(self.judged((), PATH, "z", read_concept("some r some r some r some r some r a")), 4)
        self.assertEqual(self.judged((), PATH, "z", read_concept("some r some r some r some r some r b"))[0], "world")
        self.assertEqual(self.judged((), PATH, "z", read_concept("some r some r some r some r all"))[0], "told")
        self.assertEqual(self.judged((), PATH, "z", read_concept("some r some r some r some r some r all")), 4)

    def test_a_shorter_way_beside_a_longer_one(self):
        data = tuple(sorted(PATH + (("tie", "z", "r", "v"), ("is", "v", "a"))))
        self.assertEqual(view_depth(self.judged(STEPS + ((some("r", B), ("word", "g")),), data, "z", ("word", "g"))[1]), 1)
        self.assertEqual(self.judged(STEPS, data, "z", ("word", "g")), 4)
        self.assertEqual(view_depth(self.judged(STEPS, data, "z", ("word", "d"))[1]), 2)

    def test_depth_five_through_a_clash(self):
        book = STEPS[:-1] + ((("word", "f"), NONE), (some("r", ("word", "q")), NONE))
        data = PATH + (("tie", "zz", "r", "z"),)
        self.assertIn(self.judged(book, PATH, "y", C)[0], ("told", "clash"))
        self.assertEqual(self.judged(book, PATH, "u", C)[0], "clash")
        deeper = read_book("\n".join(["each a is b", "each some r b is c", "each some r c is d", "each some r d is e", "each some r e is f", "each some r f is none"]))
        self.assertEqual(depth_by_words(deeper, data, "u", ("word", "q")), 5)
        self.assertEqual(self.judged(deeper, data, "u", ("word", "q")), 4)
        self.assertEqual(self.judged(deeper, data, "u", B)[0], "told")
        self.assertEqual(self.judged(deeper, data, "y", ("word", "f"))[0], "told")

    def test_rings(self):
        ring = (("is", "x", "a"), ("tie", "x", "r", "y"), ("tie", "y", "r", "x"))
        found = self.judged(STEPS, ring, "y", ("word", "e"))
        self.assertEqual((found[0], view_depth(found[1])), ("told", 3))
        self.assertEqual(self.judged(STEPS, ring, "x", ("word", "e"))[0], "world")
        self.assertEqual(self.judged(STEPS, ring, "y", ("word", "g")), 4)
        loop = (("is", "x", "a"), ("tie", "x", "r", "x"))
        self.assertEqual(view_depth(self.judged(STEPS, loop, "x", ("word", "f"))[1]), 4)
        self.assertEqual(self.judged(STEPS, loop, "x", ("word", "g")), 4)
        self.assertEqual(self.judged(((A, some("r", A)),), ring, "x", some("r", some("r", A)))[0], "told")

    def test_what_the_book_adds_needs_no_depth(self):
        book = read_book("each a is some r a\neach some r some r some r a is b")
        self.assertEqual(view_depth(self.judged(book, (("is", "x", "a"),), "x", B)[1]), 0)

    def test_clashes(self):
        book = read_book("each (a and b) is none\neach some r c is d\neach (d and a) is none")
        here = (("is", "x", "a"), ("is", "x", "b"), ("there", "y"))
        self.assertIn(self.judged(book, here, "x", C)[0], ("told", "clash"))
        self.assertEqual(self.judged(book, here, "y", C)[0], "clash")
        tied = (("is", "x", "a"), ("is", "y", "c"), ("is", "z", "e"), ("tie", "w", "s", "x"), ("tie", "x", "r", "y"))
        for x in "wxyz":
            found = self.judged(book, tied, x, ("word", "q"))
            self.assertIn(found[0], ("told", "clash"))
            self.assertEqual(self.judged(book, tied, x, NONE)[0] == "world", False)
        self.assertEqual(self.judged(book, tied, "z", ("word", "e"))[0], "told")
        aside = here[:2] + (("tie", "u", "r", "v"),)
        self.assertEqual(self.judged(book, aside, "u", B)[:2], ("clash", ("x", ("a", "b"), ())))

    def test_all_and_none(self):
        self.assertEqual(self.judged((), (("there", "x"),), "x", ALL)[:2], ("told", ("x", (), ())))
        self.assertEqual(self.judged((), PATH, "z", NONE)[0], "world")
        self.assertEqual(self.judged(((ALL, NONE),), (("there", "x"),), "x", B)[0] in ("told", "clash"), True)
        self.assertEqual(self.judged(((ALL, B),), (("there", "x"), ("there", "y")), "y", B)[:2], ("told", ("y", (), ())))

    def test_only_what_is_needed(self):
        data = tuple(sorted([("is", "x", name) for name in "abcd"] + [("tie", "x", role, "y") for role in "rst"] + [("is", "y", "a"), ("is", "y", "b")]))
        book = read_book("each (b and some s a) is e")
        self.assertEqual(self.judged(book, data, "x", ("word", "e"))[1], ("x", ("b",), (("s", ("y", ("a",), ())),)))
        self.assertEqual(self.judged(book, data, "x", C)[1], ("x", ("c",), ()))
        both_names = read_book("each some r (a and b) is e\neach some s a is f\neach some s b is g\neach (f and g) is h")
        self.assertEqual(self.judged(both_names, data, "x", ("word", "e"))[1], ("x", (), (("r", ("y", ("a", "b"), ())),)))
        self.assertEqual(self.judged(both_names, data, "x", ("word", "h"))[1], ("x", (), (("s", ("y", ("a", "b"), ())),)))

    def test_two_things_are_not_one(self):
        data = (("is", "y", "a"), ("is", "z", "b"), ("tie", "x", "r", "y"), ("tie", "x", "r", "z"))
        self.assertEqual(self.judged((), data, "x", some("r", both(A, B)))[0], "world")
        self.assertEqual(self.judged((), data, "x", both(some("r", A), some("r", B)))[0], "told")

    def test_many_questions(self):
        source, kinds = random.Random(71), {}
        for _ in range(400):
            book = made_book(source, source.randint(1, 6), source.randint(2, 4), roles=source.choice(["r", "rs"]), odd=source.choice([0, 0.05]))
            data = made_data(source, "xyzuvw"[:source.randint(1, 6)], source.randint(1, 12), roles="rs")
            x, concept = source.choice(things_of(data)), concept_of_size(source, source.randint(1, 6))
            depth, found = depth_by_words(book, data, x, concept), self.judged(book, data, x, concept)
            kind = found if found == 4 else found[0]
            kinds[(kind, depth)] = kinds.get((kind, depth), 0) + 1
            self.assertEqual(kind == 4, depth is not None and depth > 4)
            self.assertEqual(kind == "world", depth is None)
            if kind in ("told", "clash"):
                self.assertLessEqual(view_depth(found[1]), depth)
        for key in (("told", 0), ("told", 1), ("told", 2), ("clash", 0), ("world", None)):
            self.assertGreater(kinds[key], 2, kinds)


class CertificatesOfOthersTest(unittest.TestCase):

    BOOK = read_book("each some r b is c\neach a is some r b")
    RING = (("is", "x", "a"), ("is", "y", "b"), ("tie", "x", "r", "y"), ("tie", "y", "r", "x"))

    def holds(self, x, concept, thing, book=None, data=None):
        book, data = self.BOOK if book is None else book, self.RING if data is None else data
        wanted = is_answer(book, data, x, concept, thing)
        self.assertIs(thing_holds(book, data, x, concept, thing), wanted, thing)
        return wanted

    def told(self, view, concept, book=None):
        """A certificate "told" with the view, and with lines for it."""
        return ("told", view, judge_told(self.BOOK if book is None else book, view_concept(view), concept)[1])

    def test_other_views(self):
        deep = ("x", (), ())
        for k in range(9):
            deep = ("yx"[k % 2], ("ba"[k % 2],), (("r", deep),))
        for view, wanted in ((("x", ("a",), ()), True), (("x", (), (("r", ("y", ("b",), ())),)), True), (("x", ("a",), (("r", ("y", ("b",), ())),) * 3), True),
                             (("x", (), (("r", deep),)), True), (("x", (), (("r", ("y", ("b",), (("r", ("x", ("a",), ())),))),)), True)):
            self.assertIs(self.holds("x", C, self.told(view, C)), wanted)
            self.assertIs(self.holds("y", C, self.told(view, C)), False)
            self.assertIs(self.holds("x", B, self.told(view, C)), False)
        self.assertEqual(view_depth(("x", (), (("r", deep),))), 10)

    def test_views_that_are_none(self):
        for view in (("x", ("b",), (("r", ("y", ("b",), ())),)), ("x", (), (("r", ("y", ("b",), (("s", ("x", (), ())),))),)), ("x", (), (("r", ("x", ("a",), (("r", ("y", ("b",), ())),))),))):
            told = self.told(view, C)
            if told[2:] and lines_hold(self.BOOK, view_concept_by_words(view), C, told[2]):
                self.assertIs(self.holds("x", C, told), False)
        self.assertIs(self.holds("x", C, ("told", ["x", ("a",), ()], ())), False)

    def test_other_lines(self):
        view = ("x", (), (("r", ("y", ("b",), ())),))
        for lines, wanted in (((("axiom", 0),), True), ((("same", A), ("axiom", 0)), True), ((("axiom", 0), ("same", A)), False), ((), False), ((("axiom", 1),), False),
                              ((("same", some("r", B)), ("axiom", 0), ("chain", 0, 1)), True), (None, False), ([("axiom", 0)], False), ((("axiom", 2),), False)):
            self.assertIs(self.holds("x", C, ("told", view, lines)), wanted, lines)

    def test_a_clash_of_others(self):
        book = read_book("each (a and b) is none")
        data = (("is", "x", "a"), ("is", "x", "b"), ("is", "y", "a"))
        clash = ("clash", ("x", ("a", "b"), ()), (("axiom", 0),))
        for x, concept in (("x", C), ("y", C), ("y", NONE), ("x", NONE)):
            self.assertIs(self.holds(x, concept, clash, book, data), True)
        self.assertIs(self.holds("x", NONE, ("told",) + clash[1:], book, data), True)
        self.assertIs(self.holds("y", NONE, ("told",) + clash[1:], book, data), False)
        self.assertIs(self.holds("x", C, ("told",) + clash[1:], book, data), False)
        self.assertIs(self.holds("x", C, ("told", clash[1], clash[2] + (("none", C), ("chain", 0, 1))), book, data), True)
        self.assertIs(self.holds("y", C, ("clash", ("y", ("a", "b"), ()), (("axiom", 0),)), book, data), False)
        self.assertIs(self.holds("y", C, ("clash", ("z", (), ()), (("axiom", 0),)), book, data), False)
        self.assertIs(self.holds("x", C, clash, book, data[1:]), False)
        self.assertIs(self.holds("x", C, ("clashes",) + clash[1:], book, data), False)
        nothing = ((ALL, NONE),)
        for z, wanted in (("x", True), ("y", True), ("z", False)):
            self.assertIs(self.holds("x", C, ("clash", (z, (), ()), (("axiom", 0),)), nothing, data), wanted)

    def test_worlds_of_others(self):
        one_for_all = ("world", (1, (("a", (0,)), ("b", (0,)), ("c", (0,))), (("r", ((0, 0),)),)), (("x", 0), ("y", 0)))
        self.assertIs(self.holds("x", ("word", "d"), one_for_all), True)
        self.assertIs(self.holds("y", some("s", ALL), one_for_all), True)
        self.assertIs(self.holds("x", C, one_for_all), False)
        apart = ("world", (3, (("a", (0,)), ("b", (2,)), ("c", (0,))), (("r", ((0, 2), (2, 0))), ("s", ((1, 1),)))), (("x", 0), ("y", 2)))
        for x, concept, wanted in (("y", A, True), ("y", C, True), ("x", C, False), ("x", B, True), ("x", some("r", A), True), ("y", B, False)):
            self.assertIs(self.holds(x, concept, apart), wanted)
        for places in ((("x", 1), ("y", 2)), (("x", 0), ("y", 0)), (("x", 0),), (("x", 0), ("y", 2), ("z", 1)), (("x", 0), ("y", 3)), [("x", 0), ("y", 2)], (("x", False), ("y", 2))):
            self.assertIs(self.holds("y", A, apart[:2] + (places,)), False)
        no_model = ("world", (3, (("a", (0,)), ("b", (2,))), apart[1][2]), apart[2])
        self.assertIs(self.holds("y", A, no_model), False)
        self.assertIs(self.holds("y", A, no_model, book=self.BOOK[1:]), True)

    def test_a_certificate_of_the_other_kind(self):
        told, world = judge_thing(self.BOOK, self.RING, "x", C), judge_thing(self.BOOK, self.RING, "y", C)
        self.assertEqual((told[0], world[0]), ("told", "world"))
        for thing in (told, world):
            for wrong in (thing[:2], thing + (0,), list(thing), (thing[0],), thing[1:], ("told",) + world[1:], ("world",) + told[1:], ("clash",) + told[1:], (None,) + thing[1:]):
                self.assertIs(self.holds("x", C, wrong), False)
                self.assertIs(self.holds("y", C, wrong), False)
        self.assertIs(self.holds("y", C, told), False)
        self.assertIs(self.holds("x", C, world), False)

    def test_variants(self):
        for x, concept in (("x", C), ("y", C), ("y", some("r", A))):
            thing = judge_thing(self.BOOK, self.RING, x, concept)
            right = 0
            for other in variants(thing):
                right += self.holds(x, concept, other)
            self.assertGreater(right, 0)

    def test_other_values(self):
        for thing in odd_values() + [(), ("told",), ("world", (1, (), ()), ())]:
            for more in (thing, ("told", thing, ()), ("told", ("x", (), ()), thing), ("clash", thing, ()), ("world", thing, ()), ("world", (1, (), ()), thing), (thing, ("x", (), ()), ())):
                self.assertIs(thing_holds(self.BOOK, self.RING, "x", C, more), False, more)
                self.assertIs(thing_holds(self.BOOK, self.RING, "y", C, more), False, more)

    def test_a_correct_view_of_any_depth(self):
        ring = (("is", "x", "a"), ("tie", "x", "r", "x"))
        view = ("x", ("a",), ())
        for _ in range(12):
            view = ("x", (), (("r", view),))
        concept = view_concept(view)
        self.assertIs(is_view(ring, "x", view), True)
        lines = judge_told((), both(A, concept), A)[1]
        self.assertIs(thing_holds((), ring, "x", A, ("told", ("x", ("a",), view[2]), lines)), True)
        with self.assertRaises(TooMany):
            thing_holds((), ring, "x", concept, ("told", view, (("same", concept),)))


class WrongArgumentsTest(unittest.TestCase):

    def test_concepts_are_looked_at_also_where_all_is_told(self):
        book, data = ((ALL, NONE),), (("there", "x"),)
        for function, rest in ((judge_thing, ()), (does_tell_of, ()), (thing_holds, (None,))):
            for concept in odd_values():
                with self.assertRaises(BadConcept) as caught:
                    function(book, data, "x", concept, *rest)
                self.assertIs(caught.exception.thing, concept)


class LimitsTest(unittest.TestCase):

    def test_data_at_the_limits(self):
        source, slowest = random.Random(72), 0
        for _ in range(150):
            book = made_book(source, 6, 5, names="abcd", odd=0.03)
            data = made_data(source, "uvwxyz", 13, "abcd")[:12]
            x, concept = source.choice(things_of(data)), concept_of_size(source, 6, "abcd")
            begin = time.perf_counter()
            try:
                self.assertIs(thing_holds(book, data, x, concept, judge_thing(book, data, x, concept)), True)
            except TooMany as error:
                self.assertEqual(error.bound, 4)
            slowest = max(slowest, time.perf_counter() - begin)
        self.assertLess(slowest, 1)

    def test_as_many_ties_as_there_can_be(self):
        roles = "fghijklmnopq"
        loops = tuple(("tie", "x", role, "x") for role in roles[:11]) + (("is", "x", "a"),)
        book = read_book("\n".join(f"each (some {first} b and some {second} b) is {result}" for first, second, result in
                                   (("f", "g", "c"), ("h", "i", "d"), ("j", "k", "e"))) + "\neach (c and (d and e)) is b\neach a is b")
        begin = time.perf_counter()
        for concept in (B, C, some("f", some("g", some("h", C))), some("l", some("m", some("n", some("o", some("p", B)))))):
            try:
                self.assertIs(thing_holds(book, tuple(sorted(loops)), "x", concept, judge_thing(book, tuple(sorted(loops)), "x", concept)), True)
            except TooMany as error:
                self.assertEqual(error.bound, 4)
        self.assertLess(time.perf_counter() - begin, 2)

    def test_many_things_that_must_be_gone_through(self):
        """At each depth something new comes at each of six things, for long."""
        book = read_book("\n".join(["each (a and some r b) is c", "each some r c is d", "each some r d is e", "each some s e is f", "each some s f is g", "each some r g is h"]))
        ties = tuple(("tie", "uvwxyz"[k], role, "uvwxyz"[(k + 1) % 6]) for k in range(6) for role in "rs")
        data = tuple(sorted(ties[:10] + (("is", "u", "a"), ("is", "v", "b"))))
        begin = time.perf_counter()
        for x in "uvwxyz":
            for name in "cdefgh":
                try:
                    judge_thing(book, data, x, ("word", name))
                except TooMany as error:
                    self.assertEqual(error.bound, 4)
                    self.assertGreater(depth_by_words(book, data, x, ("word", name)), 4)
        self.assertLess(time.perf_counter() - begin, 10)


if __name__ == "__main__":
    unittest.main()
