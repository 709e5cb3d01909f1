"""[0.2] over the whole program: parameters by position and by name, the order of errors, the very value, nothing changed."""

import copy
import importlib
import inspect
import unittest

from samples import A, ALL, B, C, NONE, both, odd_values, some
from tellalike import errors
from tellalike.covering import judge_cover
from tellalike.data import judge_data, judge_thing
from tellalike.desks import Desk
from tellalike.editions import judge_border
from tellalike.joins import judge_join
from tellalike.looks import judge_simulated
from tellalike.parts import judge_least, judge_part
from tellalike.states import state_of
from tellalike.taken import take_out
from tellalike.telling import judge_told

BOOK, OTHER = ((A, some("r", B)),), ((A, some("r", B)), (some("r", B), C))
WORDS = (("a", "b"), ("r",))
ONE, TWO = (2, (("a", (1,)),), (("r", ((0, 1),)),)), (1, (("b", (0,)),), (("r", ((0, 0),)),))
THREE = (2, (("a", (0,)),), (("r", ((0, 1),)),))
DATA = (("is", "x", "a"), ("tie", "x", "r", "y"))
LINES = (("axiom", 0),)
VIEW = ("x", ("a",), ())

# Each kind of parameter: the error for other values, and values that only seem to be of the kind.
KINDS = {
    "concept": ("BadConcept", [both(A, ["all"]), some("all", A), (), BOOK]),
    "book": ("BadBook", [A, BOOK[0], (BOOK,), ((A, B, C),), ([A, B],)]),
    "vocabulary": ("BadVocabulary", [(), (("b", "a"), ()), (("a", "a"), ()), [(), ()], ((), ("all",)), ((), (), ())]),
    "world": ("BadWorld", [(), (0, (), ()), (True, (), ()), (1, (("a", ()),), ()), [1, (), ()], (1, (("a", (1,)),), ())]),
    "lines": ("BadLines", [(("axiom", 1),), [("axiom", 0)], (("axiom", True),), (("both", 0, 0),)]),
    "number of a thing": ("BadThing", [2, True, -1, "0", (0,)]),
    "thing of data": ("BadThing", ["z", ("x",), ["x"], 0]),
    "filler": ("BadFiller", [A, some("r", B), (), [B]]),
    "state": ("BadState", [(), ((), ()), ((), (), (), ()), [(), (), ()], ((C,), (), ())]),
    "data": ("BadData", [DATA[::-1], DATA[:1] * 2, list(DATA), (("is", "x"),), (["there", "x"],)]),
    "view": ("BadView", [("x", ()), ("x", ("b", "a"), ()), ["x", (), ()], ("x", (), (("r",),))]),
    "editions": ("BadEditions", [(), (BOOK,), (BOOK,) * 5, [BOOK, BOOK], (BOOK, A)]),
    "part": ("BadPart", [(1, 0), (0, 0), (2,), (-1,), (True,), [0]]),
    "k": ("BadNumber", [True, -1, "0", (0,)]),
}
# Odd values that are of the kind.
RIGHT_AFTER_ALL = {"part": [(0,)], "k": [0, 1, 10 ** 39], "number of a thing": [0, 1], "editions": []}

C1, C2 = ("concept", some("r", A)), ("concept", some("r", ALL))
V, X = ("vocabulary", WORDS), ("thing of data", "x")
ANY = None


def functions():
    """Each function of the interface: its module, its name, and its parameters: a name, and a pair of a kind and a right value, or (ANY, value)."""
    one, other, book = ("book", BOOK), ("book", OTHER), ("book", OTHER)
    two_books = {"one": one, "other": other, "vocabulary": V}
    three_books = {"base": one, "left": ("book", ((A, B),)), "right": ("book", ((both(A, B), NONE),))}
    sentence = {"left": ("concept", A), "right": ("concept", C)}
    looks = {"world": ("world", ONE), "x": ("number of a thing", 0), "second": ("world", TWO), "y": ("number of a thing", 0), "vocabulary": V}
    asked = {"book": book, "data": ("data", DATA), "x": X, "concept": ("concept", C)}
    told = judge_told(OTHER, A, C)
    return [
        ("concepts", "is_word", {"thing": (ANY, "a")}), ("concepts", "is_concept", {"thing": (ANY, A)}), ("concepts", "is_book", {"thing": (ANY, BOOK)}),
        ("concepts", "is_vocabulary", {"thing": (ANY, WORDS)}), ("concepts", "size", {"concept": C1}), ("concepts", "parts", {"concept": C1}), ("concepts", "vocabulary_of", {"concept": C1}),
        ("concepts", "vocabulary_of_book", {"book": one}), ("concepts", "is_in", {"concept": C1, "vocabulary": V}), ("concepts", "concept_text", {"concept": C1}),
        ("concepts", "book_text", {"book": one}), ("concepts", "read_concept", {"text": (ANY, "a")}), ("concepts", "read_book", {"text": (ANY, "each a is b")}),
        ("worlds", "is_world", {"thing": (ANY, ONE)}), ("worlds", "things_in", {"world": ("world", ONE), "concept": C1}), ("worlds", "does_hold_in", {"world": ("world", ONE), **sentence}),
        ("worlds", "judge_model", {"world": ("world", ONE), "book": one}), ("worlds", "model_holds", {"world": ("world", ONE), "book": one, "thing": (ANY, ("axiom", 0, 1))}),
        ("lines", "are_lines", {"book": one, "thing": (ANY, LINES)}), ("lines", "sentences_of", {"book": one, "lines": ("lines", LINES)}),
        ("lines", "lines_hold", {"book": book, **sentence, "thing": (ANY, told[1])}), ("telling", "type_of", {"book": book, "concept": C1}),
        ("telling", "does_tell", {"book": book, **sentence}), ("telling", "judge_told", {"book": book, **sentence}), ("telling", "told_holds", {"book": book, **sentence, "thing": (ANY, told)}),
        ("looks", "weaker", {"concept": C1}), ("looks", "greatest", {"world": ("world", ONE), "second": ("world", TWO), "vocabulary": V}), ("looks", "round_of", looks),
        ("looks", "judge_simulated", looks), ("looks", "simulated_holds", {**looks, "thing": (ANY, judge_simulated(ONE, 0, TWO, 0, WORDS))}), ("states", "fillers", {"book": book}),
        ("states", "kept_set", {"book": book, "vocabulary": V, "filler": ("filler", B)}), ("states", "greatest_pairs", two_books), ("states", "are_pairs", {**two_books, "thing": (ANY, ((B, B),))}),
        ("states", "state_of", {**two_books, "concept": C1}), ("states", "rounds", two_books), ("states", "states_of", two_books),
        ("states", "is_good", {**two_books, "state": ("state", state_of(BOOK, OTHER, WORDS, A))}), ("covering", "does_cover", two_books), ("covering", "are_alike", two_books),
        ("covering", "judge_cover", two_books), ("covering", "cover_holds", {**two_books, "thing": (ANY, judge_cover(BOOK, OTHER, WORDS))}), ("data", "is_data", {"thing": (ANY, DATA)}),
        ("data", "things_of", {"data": ("data", DATA)}), ("data", "are_places", {"data": ("data", DATA), "world": ("world", THREE), "thing": (ANY, (("x", 0), ("y", 1)))}),
        ("data", "is_view", {"data": ("data", DATA), "x": X, "thing": (ANY, VIEW)}), ("data", "view_concept", {"view": ("view", VIEW)}), ("data", "data_of", {"concept": C1}),
        ("data", "judge_thing", asked), ("data", "thing_holds", {**asked, "thing": (ANY, judge_thing(OTHER, DATA, "x", C))}), ("data", "does_tell_of", asked), ("data", "judge_data", two_books),
        ("data", "data_holds", {**two_books, "thing": (ANY, judge_data(BOOK, OTHER, WORDS))}), ("editions", "does_see", two_books), ("editions", "judge_border", two_books),
        ("editions", "border_holds", {**two_books, "thing": (ANY, judge_border(BOOK, OTHER, WORDS))}), ("editions", "steps", {"editions": ("editions", (BOOK, OTHER)), "vocabulary": V}),
        ("editions", "first_like", {"editions": ("editions", (BOOK, OTHER)), "vocabulary": V}), ("parts", "is_part", {"book": book, "thing": (ANY, (0,))}),
        ("parts", "book_of", {"book": book, "part": ("part", (0,))}), ("parts", "judge_part", {"book": book, "vocabulary": V, "part": ("part", (0,))}),
        ("parts", "part_holds", {"book": book, "vocabulary": V, "part": ("part", (0,)), "thing": (ANY, judge_part(OTHER, WORDS, (0,)))}), ("parts", "judge_least", {"book": book, "vocabulary": V}),
        ("parts", "least_holds", {"book": book, "vocabulary": V, "thing": (ANY, judge_least(OTHER, WORDS))}), ("parts", "needed", {"book": book, "vocabulary": V}),
        ("taken", "is_taken_out", {"book": book, "vocabulary": V, "thing": (ANY, ((A, A),))}), ("taken", "take_out", {"book": book, "vocabulary": V, "k": ("k", 2)}),
        ("taken", "taken_holds", {"book": book, "vocabulary": V, "k": ("k", 2), "thing": (ANY, take_out(OTHER, WORDS, 2))}), ("joins", "join", three_books),
        ("joins", "judge_join", {**three_books, "vocabulary": V}), ("joins", "quarrels", {**three_books, "vocabulary": V}),
        ("joins", "join_holds", {**three_books, "vocabulary": V, "thing": (ANY, judge_join(BOOK, ((A, B),), ((both(A, B), NONE),), WORDS))}), ("desks", "read_desk", {"text": (ANY, "each a is b")}),
    ]


def function_of(module, name):
    return getattr(importlib.import_module("tellalike." + module), name)


class ConventionsTest(unittest.TestCase):

    def test_all_functions_are_there_with_their_parameters(self):
        self.assertEqual(len(functions()), 73)
        for module, name, parameters in functions():
            function = function_of(module, name)
            self.assertEqual(function.__module__, "tellalike." + module)
            self.assertEqual(list(inspect.signature(function).parameters), list(parameters), name)
            self.assertTrue(all(known.default is known.empty for known in inspect.signature(function).parameters.values()), name)
        for name, parameters in (("__init__", ["book"]), ("book", []), ("marks", []), ("text", []), ("copied", []), ("do", ["deed"]), ("undo", []), ("redo", []), ("tells", ["left", "right"]),
                                 ("since", ["word", "vocabulary"])):
            self.assertEqual(list(inspect.signature(vars(Desk)[name]).parameters), ["self"] + parameters)

    def test_by_position_and_by_name_again_and_nothing_changed(self):
        for module, name, parameters in functions():
            function = function_of(module, name)
            arguments = {known: value for known, (_, value) in parameters.items()}
            before = copy.deepcopy(arguments)
            found = function(*arguments.values())
            self.assertEqual(found, function(**dict(reversed(arguments.items()))), name)
            self.assertEqual(found, function(*copy.deepcopy(arguments).values()), name)
            self.assertEqual(arguments, before, name)
            if name.startswith(("is_", "are_", "does_")) or name.endswith(("_hold", "_holds")):
                self.assertIn(found, (True, False))
                self.assertIsInstance(found, bool)
                if name not in ("does_hold_in", "does_cover", "are_alike", "is_good", "does_see", "is_taken_out"):
                    self.assertTrue(found or name == "is_in", name)

    def test_the_error_of_each_parameter(self):
        """Each parameter with other values, those before it right, those behind it wrong, too."""
        for module, name, parameters in functions():
            function, known = function_of(module, name), list(parameters)
            for k, parameter in enumerate(known):
                kind, _ = parameters[parameter]
                if kind is ANY:
                    continue
                error_name, seeming = KINDS[kind]
                for thing in odd_values() + seeming:
                    if any(type(thing) is type(right) and thing == right for right in RIGHT_AFTER_ALL.get(kind, [])):
                        continue
                    arguments = {each: parameters[each][1] for each in known[:k]}
                    arguments[parameter] = thing
                    for rest in ({each: [each] for each in known[k + 1:]}, {each: parameters[each][1] for each in known[k + 1:]}):
                        for call in (lambda: function(*arguments.values(), *rest.values()), lambda: function(**rest, **arguments)):
                            with self.assertRaises(errors.TellError, msg=(name, parameter, thing)) as caught:
                                call()
                            self.assertEqual(caught.exception.__class__.__name__, error_name, (name, parameter, thing))
                            self.assertIs(caught.exception.thing, thing)

    def test_any_value_as_thing(self):
        for module, name, parameters in functions():
            if "thing" not in parameters:
                continue
            function = function_of(module, name)
            arguments = [value for _, value in parameters.values()][:-1]
            right = {"is_word": ["a", "word"], "is_part": [(0,)]}.get(name, [])
            for thing in odd_values() + [(), A, BOOK, WORDS, ONE, DATA, LINES, VIEW, [BOOK], (BOOK, BOOK)]:
                if thing in right:
                    continue
                before = repr(thing)
                found = function(*arguments, thing)
                self.assertIsInstance(found, bool, (name, thing))
                self.assertEqual(repr(thing), before)
                self.assertIs(function(**dict(zip(parameters, arguments)), thing=thing), found)

    def test_reading_other_values(self):
        for name, module, at in (("read_concept", "concepts", -1), ("read_book", "concepts", 0), ("read_desk", "desks", 0)):
            for thing in odd_values():
                if not isinstance(thing, str):
                    with self.assertRaises(errors.BadText) as caught:
                        function_of(module, name)(thing)
                    self.assertEqual(caught.exception.at, at)
                    self.assertIsInstance(caught.exception.at, int)

    def test_bools_are_no_integers_in_certificates(self):
        """Each integer 0 or 1 within a certificate is replaced by a bool."""
        replaced = 0
        for module, name, parameters in functions():
            if name.endswith("holds") or name.endswith("hold"):
                arguments = [value for _, value in parameters.values()]
                for thing in with_a_bool(arguments[-1]):
                    replaced += 1
                    self.assertIs(function_of(module, name)(*arguments[:-1], thing), False, (name, thing))
        self.assertGreater(replaced, 30)

    def test_lists_are_no_tuples_in_certificates(self):
        replaced = 0
        for module, name, parameters in functions():
            if "thing" in parameters and name != "is_word":
                arguments = [value for _, value in parameters.values()]
                for thing in with_a_list(arguments[-1]):
                    replaced += 1
                    self.assertIs(function_of(module, name)(*arguments[:-1], thing), False, (name, thing))
        self.assertGreater(replaced, 200)


def with_a_bool(thing):
    if isinstance(thing, tuple):
        for k, item in enumerate(thing):
            for other in with_a_bool(item):
                yield thing[:k] + (other,) + thing[k + 1:]
    elif type(thing) is int and thing in (0, 1):
        yield thing == 1


def with_a_list(thing):
    if isinstance(thing, tuple):
        yield list(thing)
        for k, item in enumerate(thing):
            for other in with_a_list(item):
                yield thing[:k] + (other,) + thing[k + 1:]


if __name__ == "__main__":
    unittest.main()
