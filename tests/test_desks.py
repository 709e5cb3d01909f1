"""tellalike.desks: deeds, what is kept, marks, copies, and texts of desks."""

import copy
import random
import time
import unittest

from certificates import faults_of_cover
from oracles import concept_of_size, made_book
from samples import A, ALL, B, C, NO_WORDS, NONE, both, odd_values, some
from tellalike import desks as desks_module
from tellalike.concepts import book_text, is_word, read_book
from tellalike.covering import cover_holds, judge_cover
from tellalike.desks import Desk, read_desk
from tellalike.errors import BadBook, BadConcept, BadDeed, BadText, BadVocabulary, BadWord, NothingToRedo, NothingToUndo, TooMany
from tellalike.joins import join
from tellalike.telling import does_tell

AB, BC, CA = (A, B), (B, C), (C, A)
WORDS = (("a", "b", "c"), ("r",))


def after(deed, book, marks):
    """The book and the marks after the deed, word for word; None if it cannot be done."""
    marked = dict(marks)
    try:
        kind, *rest = deed
        if kind == "add" and len(rest) == 1:
            book = book + (rest[0],)
        elif kind == "drop" and len(rest) == 1 and type(rest[0]) is int and 0 <= rest[0] < len(book):
            book = tuple(axiom for k, axiom in enumerate(book) if k != rest[0])
        elif kind == "put" and len(rest) == 2 and type(rest[0]) is int and 0 <= rest[0] < len(book):
            book = tuple(rest[1] if k == rest[0] else axiom for k, axiom in enumerate(book))
        elif kind == "mark" and len(rest) == 1 and is_word(rest[0]):
            marked[rest[0]] = book
        elif kind == "unmark" and len(rest) == 1:
            del marked[rest[0]]
        elif kind == "back" and len(rest) == 1:
            book = marked[rest[0]]
        elif kind == "join" and len(rest) == 2:
            book = join(marked[rest[0]], book, marked[rest[1]])
        else:
            return None
    except KeyError:
        return None
    return book, tuple(sorted(marked.items()))


class Checked(unittest.TestCase):

    def assert_is(self, desk, book, *marks):
        self.assertEqual((desk.book(), desk.marks()), (book, marks))

    def assert_raises_with(self, error_class, value, function, /, *rest, **more):
        with self.assertRaises(error_class) as caught:
            function(*rest, **more)
        self.assertIs(caught.exception.thing, value)

    def assert_nothing_to_undo(self, desk):
        kept = desk.copied()
        self.assertRaises(NothingToUndo, desk.undo)
        self.assertEqual(desk, kept)

    def assert_nothing_to_redo(self, desk):
        kept = desk.copied()
        self.assertRaises(NothingToRedo, desk.redo)
        self.assertEqual(desk, kept)


class DeedsTest(Checked):

    def test_the_example(self):
        desk = Desk((AB,))
        found = [desk.do(("mark", "old")), desk.do(("add", BC)), desk.tells(A, C), [part[0] for part in desk.since("old", (("a", "c"), ()))], desk.undo(), desk.tells(A, C),
                 desk.text(), read_desk(desk.text()) == desk]
        self.assertEqual(found, [None, None, True, ["sentence", "covered"], None, False, "each a is b\nmark old\neach a is b", True])

    def test_a_new_desk(self):
        self.assert_is(Desk(()), ())
        self.assert_is(Desk(book=(AB, AB)), (AB, AB))
        self.assert_nothing_to_undo(Desk((AB,)))
        self.assert_nothing_to_redo(Desk((AB,)))
        for thing in odd_values() + [AB, [AB], ([A, B],), ((A, B, C),), Desk(())]:
            self.assert_raises_with(BadBook, thing, Desk, thing)
            self.assert_raises_with(BadBook, thing, Desk, book=thing)

    def test_add(self):
        desk = Desk((AB,))
        self.assertIs(desk.do(("add", BC)), None)
        desk.do(deed=("add", AB))
        self.assert_is(desk, (AB, BC, AB))
        desk.do(("add", (NONE, some("r", both(A, ALL)))))
        self.assertEqual(desk.book()[3], (NONE, some("r", both(A, ALL))))

    def test_drop_and_put(self):
        desk = Desk((AB, BC, CA))
        desk.do(("drop", 1))
        self.assert_is(desk, (AB, CA))
        desk.do(("put", 0, BC))
        self.assert_is(desk, (BC, CA))
        desk.do(("put", 1, CA))
        self.assert_is(desk, (BC, CA))
        desk.do(("drop", 1))
        desk.do(("drop", 0))
        self.assert_is(desk, ())
        for deed in (("drop", 0), ("put", 0, AB), ("drop", -1)):
            self.assert_raises_with(BadDeed, deed, desk.do, deed)

    def test_marks(self):
        desk = Desk((AB,))
        desk.do(("mark", "old"))
        desk.do(("add", BC))
        desk.do(("mark", "a"))
        self.assert_is(desk, (AB, BC), ("a", (AB, BC)), ("old", (AB,)))
        desk.do(("mark", "old"))
        self.assert_is(desk, (AB, BC), ("a", (AB, BC)), ("old", (AB, BC)))
        desk.do(("unmark", "a"))
        self.assert_is(desk, (AB, BC), ("old", (AB, BC)))
        desk.do(("unmark", "old"))
        self.assert_is(desk, (AB, BC))
        deed = ("unmark", "old")
        self.assert_raises_with(BadDeed, deed, desk.do, deed)

    def test_back_and_join(self):
        desk = Desk((AB, BC))
        desk.do(("mark", "base"))
        desk.do(("drop", 0))
        desk.do(("add", CA))
        desk.do(("mark", "side"))
        desk.do(("back", "base"))
        self.assert_is(desk, (AB, BC), ("base", (AB, BC)), ("side", (BC, CA)))
        desk.do(("add", (A, C)))
        desk.do(("join", "base", "side"))
        self.assertEqual(desk.book(), (BC, (A, C), CA))
        self.assertEqual(desk.book(), join((AB, BC), (AB, BC, (A, C)), (BC, CA)))
        desk.do(("back", "side"))
        desk.do(("back", "side"))
        self.assertEqual(desk.book(), (BC, CA))

    def test_one_word_twice(self):
        desk = Desk((AB, AB, BC))
        desk.do(("mark", "x"))
        desk.do(("join", "x", "x"))
        self.assertEqual(desk.book(), (AB, BC))
        desk.do(("add", CA))
        desk.do(("drop", 0))
        desk.do(("join", "x", "x"))
        self.assertEqual(desk.book(), (BC, CA))
        desk.do(("back", "x"))
        self.assertEqual(desk.book(), (AB, AB, BC))

    def bad_deeds(self, book):
        """Deeds that cannot be done on a desk with this book and with the one mark old."""
        many = len(book)
        return [
            (), ("add",), ("add", AB, BC), ("add", A), ("add", [A, B]), ("add", (A, B, C)), ("add", (A, ["word", "b"])), ("add", None), ("add", (A,)), ("add", ()), ("add", AB + AB), ["add", AB],
            ("add", ("a", "b")), ("add", (A, ("word", "all"))), ("drop",), ("drop", -1), ("drop", many), ("drop", True), ("drop", False), ("drop", "0"), ("drop", None), ("drop", (0,)),
            ("drop", 0, 0), ["drop", 0], ("drop", AB), ("drop", 10 ** 39), ("put", 0), ("put", -1, AB), ("put", many, AB), ("put", True, AB), ("put", 0, A), ("put", 0, [A, B]), ("put", 0, None),
            ("put", 0, AB, AB), ("put", AB, 0), ["put", 0, AB], ("mark",), ("mark", "all"), ("mark", ""), ("mark", "Old"), ("mark", "abcdefghijk"), ("mark", "old", "old"), ("mark", 1), ("mark", ["old"]),
            ("mark", ("old",)), ("mark", None), ["mark", "old"], ("unmark",), ("unmark", "new"), ("unmark", "old", "old"), ("unmark", ["old"]), ("unmark", "all"), ("unmark", None), ("unmark", ""),
            ["unmark", "old"], ("back",), ("back", "new"), ("back", "old", "old"), ("back", ["old"]), ("back", 0), ["back", "old"], ("join", "old"), ("join", "old", "new"), ("join", "new", "old"),
            ("join", "new", "new"), ("join", "old", "old", "old"), ("join", ["old"], "old"), ("join", "old", None), ("join", "old", ("old",)), ["join", "old", "old"], ("undo",), ("redo",), ("do", AB), ("Add", AB),
            (None, AB), (["add"], AB), (("add",), AB), (0, 0), ("join",), ("text",), (("add", AB),), "add", ("mark", Desk(())), (Desk(()), AB), ("back", {}), ("drop", {}), ("all",),
        ]

    def test_bad_deeds(self):
        for book in ((AB, BC), ()):
            desk = Desk(book)
            desk.do(("mark", "old"))
            desk.do(("mark", "gone"))
            desk.do(("unmark", "gone"))
            desk.do(("add", CA))
            desk.do(("add", CA))
            desk.undo()
            kept = desk.copied()
            for deed in self.bad_deeds(desk.book()) + odd_values():
                self.assert_raises_with(BadDeed, deed, desk.do, deed)
                self.assert_raises_with(BadDeed, deed, desk.do, deed=deed)
                self.assertEqual(desk, kept)
            self.assertRaises(BadDeed, desk.do, ("back", "gone"))
            desk.redo()
            self.assertEqual(desk.book(), book + (CA, CA))
            self.assert_nothing_to_redo(desk)
            for _ in range(5):
                desk.undo()
            self.assert_is(desk, book)
            self.assert_nothing_to_undo(desk)


class UndoTest(Checked):

    def test_undo_and_redo(self):
        desk = Desk(())
        deeds = [("add", AB), ("mark", "x"), ("add", BC), ("mark", "x"), ("drop", 0), ("put", 0, CA), ("join", "x", "x"), ("back", "x"), ("unmark", "x")]
        seen = [desk.copied()]
        for deed in deeds:
            desk.do(deed)
            seen.append(desk.copied())
        self.assert_nothing_to_redo(desk)
        for known in seen[-2::-1]:
            self.assertIs(desk.undo(), None)
            self.assertEqual(desk, known)
        self.assert_nothing_to_undo(desk)
        for known in seen[1:]:
            self.assertIs(desk.redo(), None)
            self.assertEqual(desk, known)
        self.assert_nothing_to_redo(desk)

    def test_deeds_that_change_nothing(self):
        desk = Desk((AB,))
        desk.do(("mark", "x"))
        for deed in (("mark", "x"), ("back", "x"), ("put", 0, AB), ("join", "x", "x")):
            desk.do(deed)
            self.assert_is(desk, (AB,), ("x", (AB,)))
        for _ in range(4):
            desk.undo()
            self.assert_is(desk, (AB,), ("x", (AB,)))
        desk.undo()
        self.assert_is(desk, (AB,))
        self.assert_nothing_to_undo(desk)
        for _ in range(5):
            desk.redo()
        self.assert_nothing_to_redo(desk)

    def test_do_after_undo(self):
        desk = Desk(())
        for axiom in (AB, BC, CA):
            desk.do(("add", axiom))
        desk.undo()
        desk.undo()
        desk.do(("mark", "x"))
        self.assert_nothing_to_redo(desk)
        self.assert_is(desk, (AB,), ("x", (AB,)))
        desk.undo()
        desk.redo()
        self.assert_is(desk, (AB,), ("x", (AB,)))
        desk.undo()
        desk.undo()
        self.assert_is(desk, ())
        self.assert_nothing_to_undo(desk)

    def test_a_bad_deed_keeps_what_can_be_redone(self):
        desk = Desk(())
        desk.do(("add", AB))
        desk.undo()
        self.assertRaises(BadDeed, desk.do, ("drop", 0))
        self.assertRaises(NothingToUndo, desk.undo)
        desk.redo()
        self.assert_is(desk, (AB,))
        self.assertRaises(NothingToRedo, desk.redo)
        desk.undo()
        self.assert_is(desk, ())

    def test_what_was_returned_does_not_change(self):
        desk = Desk((AB,))
        book, marks, text = desk.book(), desk.marks(), desk.text()
        for deed in (("add", BC), ("mark", "x"), ("drop", 0)):
            desk.do(deed)
        self.assertEqual((book, marks, text), ((AB,), (), "each a is b"))
        later = desk.marks()
        desk.undo()
        desk.undo()
        desk.undo()
        self.assertEqual(later, (("x", (AB, BC)),))
        self.assertEqual(desk.book(), book)

    def test_copies(self):
        desk = Desk((AB,))
        desk.do(("add", BC))
        desk.do(("mark", "x"))
        desk.undo()
        other = desk.copied()
        self.assertEqual(other, desk)
        self.assertIsNot(other, desk)
        other.redo()
        self.assert_is(other, (AB, BC), ("x", (AB, BC)))
        self.assert_is(desk, (AB, BC))
        desk.undo()
        self.assert_is(desk, (AB,))
        self.assert_nothing_to_undo(desk)
        other.undo()
        other.undo()
        self.assert_is(other, (AB,))
        self.assert_nothing_to_undo(other)
        desk.redo()
        desk.redo()
        self.assert_is(desk, (AB, BC), ("x", (AB, BC)))
        other.do(("drop", 0))
        self.assert_nothing_to_redo(other)
        self.assert_is(other, ())
        again = other.copied()
        again.undo()
        self.assert_is(other, ())
        self.assert_is(again, (AB,))
        again.do(("add", CA))
        self.assertNotEqual(again, other)
        other.undo()
        other.redo()
        self.assert_is(other, ())

    def test_equality(self):
        one, two = Desk((AB,)), Desk((AB, BC))
        self.assertFalse(one == two)
        self.assertTrue(one != two)
        two.do(("drop", 1))
        self.assertTrue(one == two)
        self.assertFalse(one != two)
        two.do(("mark", "x"))
        self.assertFalse(one == two)
        one.do(("mark", "x"))
        self.assertTrue(one == two)
        one.do(("add", BC))
        one.do(("mark", "x"))
        one.undo()
        one.undo()
        self.assertTrue(one == two)
        two.do(("mark", "y"))
        one.do(("mark", "z"))
        self.assertFalse(one == two)
        self.assertEqual(Desk((AB, BC)) == Desk((BC, AB)), False)
        self.assertTrue(one == one)

    def test_equal_to_no_value_of_another_type(self):
        class Any:
            def __eq__(self, other):
                return True

        for book in ((), (AB,)):
            desk = Desk(book)
            for thing in [thing for thing in odd_values() if not isinstance(thing, Desk)] + [book, (book, ()), book_text(book), (), (book,)]:
                self.assertIs(desk == thing, False)
                self.assertIs(thing == desk, False)
                self.assertIs(desk != thing, True)
            self.assertIs(desk == Any(), False)
            self.assertIs(desk == Desk, False)


class KeptTest(Checked):

    def drawn_deed(self, source, book, marks):
        word = lambda: source.choice(["x", "y", "z"])
        axiom = lambda: made_book(source, 1, 3)[0]
        k = source.randint(-1, len(book))
        return source.choice([("add", axiom()), ("drop", k), ("put", k, axiom()), ("mark", word()), ("mark", word()), ("unmark", word()), ("back", word()), ("join", word(), word())])

    def test_many_sequences(self):
        source, done, refused = random.Random(121), 0, 0
        for _ in range(60):
            first = made_book(source, source.randint(0, 3), 3)
            desk, before, ahead, now = Desk(first), [], [], (first, ())
            copies = []
            for _ in range(40):
                kind = source.random()
                if kind < 0.2:
                    if before:
                        desk.undo()
                        ahead.append(now)
                        now = before.pop()
                    else:
                        self.assertRaises(NothingToUndo, desk.undo)
                elif kind < 0.35:
                    if ahead:
                        desk.redo()
                        before.append(now)
                        now = ahead.pop()
                    else:
                        self.assertRaises(NothingToRedo, desk.redo)
                elif kind < 0.4:
                    copies.append((desk, now, list(before)))
                    desk = desk.copied()
                else:
                    deed = self.drawn_deed(source, *now)
                    wanted = after(deed, *now)
                    if wanted is None:
                        self.assertRaises(BadDeed, desk.do, deed)
                        refused += 1
                    else:
                        self.assertIs(desk.do(deed), None)
                        before.append(now)
                        ahead, now = [], wanted
                        done += 1
                self.assertEqual((desk.book(), desk.marks()), now)
                left, right = concept_of_size(source, 2), concept_of_size(source, 2)
                self.assertIs(desk.tells(left, right), does_tell(now[0], left, right))
                self.assertEqual(read_desk(desk.text()), desk)
            for kept, known, steps in copies:
                self.assertEqual((kept.book(), kept.marks()), known)
                for step in reversed(steps):
                    kept.undo()
                    self.assertEqual((kept.book(), kept.marks()), step)
                self.assertRaises(NothingToUndo, kept.undo)
        self.assertGreater(done, 500)
        self.assertGreater(refused, 100)

    def test_tells_and_since_after_each_deed(self):
        desk = Desk((AB,))
        desk.do(("mark", "old"))
        steps = [("add", BC), ("mark", "new"), ("drop", 0), ("put", 0, CA), ("back", "new"), ("join", "old", "new"), ("add", (A, some("r", B))), ("unmark", "new")]
        calls = [lambda deed=deed: desk.do(deed) for deed in steps] + [desk.undo] * 5 + [desk.redo] * 2
        kinds = set()
        for call in calls:
            call()
            for looked in (desk, desk.copied()):
                for left, right in ((A, B), (A, C), (B, C), (C, A), (A, some("r", ALL))):
                    self.assertIs(looked.tells(left, right), does_tell(desk.book(), left, right))
                    self.assertIs(looked.tells(right=right, left=left), does_tell(desk.book(), left, right))
                for word, book in desk.marks():
                    for vocabulary in ((("a", "c"), ()), (("a", "b"), ("r",))):
                        found = looked.since(word, vocabulary)
                        self.assertEqual(found, (judge_cover(book, desk.book(), vocabulary), judge_cover(desk.book(), book, vocabulary)))
                        self.assertEqual(found, looked.since(vocabulary=vocabulary, word=word))
                        self.assertIs(cover_holds(book, desk.book(), vocabulary, found[0]), True)
                        self.assertIs(cover_holds(desk.book(), book, vocabulary, found[1]), True)
                        self.assertEqual(faults_of_cover(book, desk.book(), vocabulary, found[0]), [])
                        kinds.add((found[0][0], found[1][0]))
        self.assertEqual(len(kinds), 4)

    def test_wrong_arguments(self):
        desk = Desk((AB,))
        desk.do(("mark", "old"))
        desk.do(("add", BC))
        desk.undo()
        kept = desk.copied()
        one, two = [1], [2]
        for thing in odd_values() + [(), AB, both(A, ["all"]), Desk(())]:
            self.assert_raises_with(BadConcept, thing, desk.tells, thing, one)
            self.assert_raises_with(BadConcept, thing, desk.tells, A, thing)
            self.assert_raises_with(BadConcept, thing, desk.tells, right=one, left=thing)
            self.assert_raises_with(BadWord, thing, desk.since, thing, WORDS)
            self.assert_raises_with(BadWord, thing, desk.since, vocabulary=two, word=thing)
        for thing in ("new", "all", "Old", ("old",), ["old"], "old ", 0):
            self.assert_raises_with(BadWord, thing, desk.since, thing, two)
        for thing in odd_values() + [(), (("b", "a"), ()), [(), ()]]:
            self.assert_raises_with(BadVocabulary, thing, desk.since, "old", thing)
        self.assertEqual(desk, kept)
        desk.redo()
        self.assertEqual(desk.book(), (AB, BC))

    def test_too_many(self):
        path = read_book("each x is some r a\neach a is some r b\neach b is some r c\neach c is some r d")
        desk = Desk(path)
        desk.do(("mark", "path"))
        desk.do(("add", (("word", "x"), some("r", ("word", "x")))))
        with self.assertRaises(TooMany) as caught:
            desk.since("path", ((), ("r",)))
        self.assertEqual(caught.exception.bound, 3)
        self.assertEqual(desk.since("path", (("a",), ()))[1][0], "covered")
        desk.undo()
        self.assertEqual(desk.book(), path)

    def test_what_is_passed_stays_and_answers_repeat(self):
        desk = Desk((AB,))
        for deed in (["add", [A, B]], ("add", [A, B]), ("mark", ["x"])):
            before = copy.deepcopy(deed)
            self.assertRaises(BadDeed, desk.do, deed)
            self.assertEqual(deed, before)
        desk.do(("mark", "x"))
        desk.do(("add", BC))
        kept = desk.copied()
        self.assertEqual(desk.since("x", WORDS), desk.since("x", WORDS))
        self.assertEqual((desk.text(), desk.book(), desk.marks(), desk.copied()), (desk.text(), desk.book(), desk.marks(), desk.copied()))
        self.assertEqual(desk, kept)

    def test_defined_in_the_class_itself(self):
        for name in ("book", "marks", "text", "copied", "do", "undo", "redo", "tells", "since", "__init__", "__eq__"):
            self.assertIn(name, vars(Desk))
        self.assertEqual((Desk.__module__, read_desk.__module__, Desk.__bases__), ("tellalike.desks", "tellalike.desks", (object,)))
        self.assertIs(desks_module.Desk, Desk)


class TextsTest(Checked):

    def test_texts(self):
        for book, marks, text in (((), [], ""), ((AB,), [], "each a is b"), ((AB, BC), [], "each a is b\neach b is c"), ((), ["x"], "mark x"), ((), ["x", "y"], "mark x\nmark y"),
                                  ((AB,), ["y", "x"], "each a is b\nmark x\neach a is b\nmark y\neach a is b")):
            desk = Desk(book)
            for word in marks:
                desk.do(("mark", word))
            self.assertEqual(desk.text(), text)
            found = read_desk(text)
            self.assertEqual(found, desk)
            self.assertEqual((found.book(), found.marks()), (desk.book(), desk.marks()))
            self.assert_nothing_to_undo(found)
            self.assert_nothing_to_redo(found)
            self.assertEqual(read_desk(text=text), desk)

    def test_marks_of_other_books(self):
        desk = read_desk("mark a\neach a is b\nmark mark\nmark zz\neach b is (a and some r none)\neach a is b")
        self.assert_is(desk, (), ("a", (AB,)), ("mark", ()), ("zz", ((B, both(A, some("r", NONE))), AB)))
        self.assertEqual(desk.text(), "mark a\neach a is b\nmark mark\nmark zz\neach b is (a and some r none)\neach a is b")
        desk.do(("back", "zz"))
        desk.do(("unmark", "a"))
        self.assertEqual(desk.text(), "each b is (a and some r none)\neach a is b\nmark mark\nmark zz\neach b is (a and some r none)\neach a is b")
        desk.undo()
        desk.undo()
        self.assert_nothing_to_undo(desk)

    def test_lines_that_cannot_stand(self):
        for text, at in (("\n", 1), ("each a is b\n", 2), ("each a is b\n\neach b is c", 2), ("\neach a is b", 1), ("mark x\n", 2), ("mark x\nmark x", 2), ("mark y\nmark x", 2),
                         ("mark x\neach a is b\nmark x", 3), ("mark b\nmark c\nmark a", 3), ("each a is b\nmark x\nmark w\neach a", 3), ("mark", 1), ("mark ", 1), ("mark  x", 1), ("mark x ", 1), ("mark all", 1),
                         ("mark X", 1), ("mark abcdefghijk", 1), ("markx", 1), ("mark x y", 1), (" mark x", 1), ("each a is b\nmark none", 2), ("each a is", 1), ("each a is b\neach", 2), ("a", 1), (" ", 1),
                         ("each a is b ", 1), ("each a is b\r\neach b is c", 1), ("mark x\neach a is b\n\n", 3), ("each a is b\nmark each a is b", 2), ("mark x\nmark y\nmark y", 3), ("each a  is b", 1),
                         ("each a is (b and c\neach a is b", 1), ("mark x\n mark y", 2), ("each a is b\tmark x", 1), ("each a is b\x0cmark x", 1), ("each a is b\x1emark x\n", 1)):
            for call in (lambda: read_desk(text), lambda: read_desk(text=text)):
                with self.assertRaises(BadText) as caught:
                    call()
                self.assertEqual(caught.exception.at, at, text)

    def test_other_values(self):
        for thing in odd_values() + [(), b"mark x", Desk(()), ["mark x"], ("mark x",)]:
            if isinstance(thing, str):
                continue
            with self.assertRaises(BadText) as caught:
                read_desk(thing)
            self.assertEqual((caught.exception.at, type(caught.exception.at)), (0, int))
        for text in odd_values():
            if isinstance(text, str) and text:
                self.assertRaises(BadText, read_desk, text)

    def first_wrong_by_words(self, text):
        """The number that BadText has for the text; None if it is the text of a desk."""
        last = ""
        for number, line in enumerate(text.split("\n") if text else [], 1):
            if line.startswith("mark "):
                if not is_word(line[5:]) or not last < line[5:]:
                    return number
                last = line[5:]
            else:
                try:
                    if line == "" or len(read_book(line)) != 1:
                        return number
                except BadText:
                    return number
        return None

    def test_many_texts(self):
        source, answers = random.Random(122), {True: 0, False: 0}
        lines = ["each a is b", "mark x", "mark y", "mark z", "each b is some r (a and c)", "", "mark all", "each a is", "mark x", "each c is none"]
        for _ in range(1500):
            text = "\n".join(source.choice(lines[:5] if source.random() < 0.9 else lines) for _ in range(source.randint(0, 5)))
            wanted = self.first_wrong_by_words(text)
            answers[wanted is None] += 1
            if wanted is None:
                self.assertEqual(read_desk(text).text(), text)
            else:
                with self.assertRaises(BadText) as caught:
                    read_desk(text)
                self.assertEqual(caught.exception.at, wanted, text)
        self.assertGreater(min(answers.values()), 200)

    def test_each_prefix_of_the_lines_of_a_text(self):
        desk = Desk((AB, BC))
        for word in ("new", "old", "mark"):
            desk.do(("mark", word))
            desk.do(("add", CA))
        lines = desk.text().split("\n")
        for k in range(len(lines)):
            self.assertEqual(read_desk("\n".join(lines[:k + 1])).text(), "\n".join(lines[:k + 1]))
        self.assertNotIn("", lines)
        self.assertEqual(sorted(NO_WORDS), sorted(word for word in NO_WORDS if not is_word(word)))


class LimitsTest(Checked):

    def test_sequences_at_the_limits(self):
        source, slowest = random.Random(123), 0
        for _ in range(6):
            desk = Desk(made_book(source, 6, 5))
            begin = time.perf_counter()
            for k in range(40):
                if k < 6:
                    desk.do(("mark", "abcdef"[k] + "x"))
                else:
                    desk.do(source.choice([("put", source.randrange(len(desk.book()) or 1), made_book(source, 1, 5)[0]), ("mark", source.choice("abcdef") + "x"), ("back", "bx"), ("add", AB),
                                           ("drop", len(desk.book()) - 1)]) if desk.book() else ("add", AB))
                desk.copied().tells(A, B)
            self.assertEqual(len(desk.marks()), 6)
            self.assertEqual(read_desk(desk.text()), desk)
            for _ in range(40):
                desk.undo()
            self.assert_nothing_to_undo(desk)
            for _ in range(40):
                desk.redo()
            slowest = max(slowest, time.perf_counter() - begin)
        self.assertLess(slowest, 1)

    def test_texts_at_the_limits(self):
        line = "each " + "(" * 40 + "a" + " and b)" * 40 + " is c"
        text = "\n".join([line] * 4 + ["mark x"] + [line] * 4 + ["mark y"] + [line] * 3)
        self.assertLess(len(text), 4001)
        begin = time.perf_counter()
        self.assertEqual(read_desk(text).text(), text)
        with self.assertRaises(BadText) as caught:
            read_desk("mark a\n" * 400 + "mark b")
        self.assertEqual(caught.exception.at, 2)
        self.assertLess(time.perf_counter() - begin, 0.5)


if __name__ == "__main__":
    unittest.main()
