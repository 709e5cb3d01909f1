"""All examples of the document, with what each line gives."""

import unittest

from tellalike.errors import TellError

EXAMPLES = {
    "tellalike/concepts.py": r"""
>>> from tellalike.concepts import concept_text, is_concept, is_in, parts, read_book, read_concept, size, vocabulary_of
>>> C = ("some", "r", ("and", ("word", "a"), ("all",)))
>>> [size(C), parts(C), concept_text(C), read_concept("(a and some r none)"), vocabulary_of(C), is_in(C, (("a",), ())), is_concept(("word", "all"))]
[3, (('all',), ('and', ('word', 'a'), ('all',)), ('some', 'r', ('and', ('word', 'a'), ('all',))), ('word', 'a')), 'some r (a and all)', ('and', ('word', 'a'), ('some', 'r', ('none',))), (('a',), ('r',)), False, False]
>>> [read_book("each a is some r b\neach b is none"), read_book("")]
[((('word', 'a'), ('some', 'r', ('word', 'b'))), (('word', 'b'), ('none',))), ()]
>>> read_concept("some r (a")
raises BadText(at=9)
>>> read_concept("some all a")
raises BadText(at=8)
""",
    "tellalike/worlds.py": r"""
>>> from tellalike.worlds import judge_model, things_in
>>> WORLD = (2, (("a", (0, 1)), ("b", (1,))), (("r", ((0, 1),)),))
>>> A, B = ("word", "a"), ("word", "b")
>>> [things_in(WORLD, ("some", "r", ("and", A, B))), things_in(WORLD, ("all",)), judge_model(WORLD, ((B, A), (A, ("some", "r", B)))), judge_model(WORLD, ((("some", "r", ("all",)), A),))]
[(0,), (0, 1), ('axiom', 1, 1), ('model',)]
""",
    "tellalike/lines.py": r"""
>>> from tellalike.lines import are_lines, lines_hold, sentences_of
>>> A, B = ("word", "a"), ("word", "b")
>>> BOOK, LINES = ((A, ("some", "r", B)),), (("axiom", 0), ("all", B), ("lift", "r", 1), ("chain", 0, 2))
>>> [sentences_of(BOOK, LINES)[2:], lines_hold(BOOK, A, ("some", "r", ("all",)), LINES), are_lines(BOOK, (("chain", 0, 0),))]
[((('some', 'r', ('word', 'b')), ('some', 'r', ('all',))), (('word', 'a'), ('some', 'r', ('all',)))), True, False]
""",
    "tellalike/telling.py": r"""
>>> from tellalike.telling import does_tell, judge_told, told_holds, type_of
>>> A, B, C = ("word", "a"), ("word", "b"), ("word", "c")
>>> BOOK = ((A, ("some", "r", B)), (("some", "r", B), C), (B, ("some", "r", B)))
>>> [type_of(BOOK, A), does_tell(BOOK, B, C), does_tell(BOOK, C, B), judge_told(BOOK, C, B)[0], judge_told(BOOK, A, C)[0]]
[(('all',), ('some', 'r', ('word', 'b')), ('word', 'a'), ('word', 'c')), True, False, 'world', 'told']
>>> [told_holds(BOOK, A, C, ("told", (("axiom", 0), ("axiom", 1), ("chain", 0, 1)))), told_holds(BOOK, C, B, ("world", (1, (("c", (0,)),), ()), 0))]
[True, True]
""",
    "tellalike/looks.py": r"""
>>> from tellalike.looks import greatest, judge_simulated
>>> ONE, TWO = (2, (("a", (1,)),), (("r", ((0, 1),)),)), (1, (), (("r", ((0, 0),)),))
>>> [greatest(TWO, ONE, ((), ("r",))), greatest(ONE, TWO, ((), ("r",))), judge_simulated(ONE, 0, TWO, 0, (("a",), ("r",))), judge_simulated(TWO, 0, ONE, 0, ((), ("r",)))]
[(), ((0, 0), (1, 0)), ('concept', ('some', 'r', ('word', 'a'))), ('concept', ('some', 'r', ('some', 'r', ('all',))))]
""",
    "tellalike/states.py": r"""
>>> from tellalike.states import fillers, greatest_pairs, is_good, kept_set, state_of, states_of
>>> A, B = ("word", "a"), ("word", "b")
>>> OTHER, WORDS = ((A, ("some", "r", B)),), (("a", "b"), ("r",))
>>> [fillers(OTHER), kept_set(OTHER, WORDS, B), greatest_pairs((), OTHER, WORDS), state_of((), OTHER, WORDS, A)]
[(('word', 'b'),), (('all',), ('word', 'b')), (), ((('all',), ('word', 'a')), (('all',), ('some', 'r', ('word', 'b')), ('word', 'a')), ())]
>>> [is_good((), OTHER, WORDS, state_of((), OTHER, WORDS, A)), is_good((), OTHER, WORDS, state_of((), OTHER, WORDS, ("and", A, ("some", "r", B)))), len(states_of((), OTHER, WORDS))]
[False, True, 8]
""",
    "tellalike/covering.py": r"""
>>> from tellalike.covering import are_alike, cover_holds, does_cover, judge_cover
>>> A, B, C = ("word", "a"), ("word", "b"), ("word", "c")
>>> OTHER = ((A, ("some", "r", B)), (("some", "r", B), C))
>>> [judge_cover((), OTHER, (("a", "b"), ("r",)))[:3], judge_cover((), OTHER, (("a", "c"), ()))[:3], does_cover((), OTHER, (("b", "c"), ())), does_cover(OTHER, (), (("a", "b", "c"), ("r",)))]
[('sentence', ('word', 'a'), ('some', 'r', ('all',))), ('sentence', ('word', 'a'), ('word', 'c')), True, True]
>>> [are_alike(OTHER, ((A, C),), (("a", "c"), ())), are_alike(OTHER, ((A, C),), (("a", "c"), ("r",))), cover_holds((), (), ((), ()), ("covered", (), (((("all",),), (("all",),), ()),)))]
[True, False, True]
""",
    "tellalike/data.py": r"""
>>> from tellalike.data import data_of, does_tell_of, judge_data, judge_thing, thing_holds, things_of, view_concept
>>> A, B, C, TIED = ("word", "a"), ("word", "b"), ("word", "c"), ("some", "r", ("all",))
>>> BOOK, DATA = ((TIED, C),), (("is", "x", "a"), ("tie", "x", "r", "y"))
>>> [things_of(DATA), does_tell_of(BOOK, DATA, "x", C), judge_thing(BOOK, DATA, "y", C)[0], view_concept(("x", ("a",), (("r", ("y", (), ())),)))]
[('x', 'y'), True, 'world', ('and', ('word', 'a'), ('some', 'r', ('all',)))]
>>> [thing_holds(BOOK, DATA, "x", C, ("told", ("x", (), (("r", ("y", (), ())),)), (("axiom", 0),))), data_of(("and", A, ("some", "r", B))), judge_data((), BOOK, (("c",), ("r",)))[0]]
[True, (('is', 'a', 'a'), ('is', 'b', 'b'), ('there', 'a'), ('there', 'b'), ('tie', 'a', 'r', 'b')), 'data']
""",
    "tellalike/editions.py": r"""
>>> from tellalike.editions import does_see, first_like, judge_border, steps
>>> A, B, C = ("word", "a"), ("word", "b"), ("word", "c")
>>> ONE, TWO = ((A, C), (C, B)), ((A, B),)
>>> [does_see(ONE, TWO, (("a", "b"), ())), steps((ONE, TWO, ONE), (("a", "c"), ())), first_like((ONE, TWO, ONE), (("a", "c"), ())), first_like((ONE, TWO), (("a", "b"), ()))]
[False, (1, 2), (0, 1, 0), (0, 0)]
>>> BORDER = judge_border(ONE, TWO, (("a", "b", "c"), ()))
>>> [[part[0] for part in BORDER[1]], [part[1] for part in BORDER[1]], [part[0] for part in BORDER[2]]]
[[(('a', 'c'), ()), (('b', 'c'), ())], ['lost', 'lost'], [(('a', 'b'), ()), (('c',), ())]]
""",
    "tellalike/parts.py": r"""
>>> from tellalike.parts import book_of, judge_least, judge_part, needed
>>> A, B, C = ("word", "a"), ("word", "b"), ("word", "c")
>>> BOOK, AB = ((A, C), (C, B), (A, B)), (("a", "b"), ())
>>> [book_of(BOOK, (0, 2)), judge_part(BOOK, AB, (0,))[0], judge_part(BOOK, AB, (0, 1))[0], judge_least(BOOK, AB)[0], needed(BOOK, AB), needed(BOOK, (("a", "c"), ()))]
[((('word', 'a'), ('word', 'c')), (('word', 'a'), ('word', 'b'))), 'lost', 'enough', 'part', (), (0,)]
""",
    "tellalike/taken.py": r"""
>>> from tellalike.taken import is_taken_out, take_out
>>> A, B, C = ("word", "a"), ("word", "b"), ("word", "c")
>>> BOOK, AB = ((A, C), (C, B)), (("a", "b"), ())
>>> [is_taken_out(BOOK, AB, ((A, B),)), is_taken_out(BOOK, AB, ((B, A),)), is_taken_out(BOOK, AB, ((A, C),)), take_out(BOOK, AB, 0)[:2], take_out(BOOK, AB, 2)[0]]
[True, False, False, ('rest', ()), 'whole']
""",
    "tellalike/joins.py": r"""
>>> from tellalike.joins import join, judge_join, quarrels
>>> A, B, C, NONE = ("word", "a"), ("word", "b"), ("word", "c"), ("none",)
>>> [join(((A, B), (B, C)), ((A, B),), ((A, B), (B, C), (C, A))), quarrels((), ((A, B),), ((("and", A, B), NONE),), (("a", "b"), ()))]
[((('word', 'a'), ('word', 'b')), (('word', 'c'), ('word', 'a'))), ('a',)]
>>> [part[0] for part in judge_join(((B, C),), (), ((B, C),), (("b", "c"), ()))[1:3]]
['covered', 'sentence']
""",
    "tellalike/desks.py": r"""
>>> from tellalike.desks import Desk, read_desk
>>> A, B, C = ("word", "a"), ("word", "b"), ("word", "c")
>>> desk = Desk(((A, B),))
>>> [desk.do(("mark", "old")), desk.do(("add", (B, C))), desk.tells(A, C), [part[0] for part in desk.since("old", (("a", "c"), ()))], desk.undo(), desk.tells(A, C), desk.text(), read_desk(desk.text()) == desk]
[None, None, True, ['sentence', 'covered'], None, False, 'each a is b\nmark old\neach a is b', True]
""",
}


def steps_of(block):
    """The pairs (code, what it gives) of an example."""
    found = []
    for line in block.strip("\n").split("\n"):
        if line.startswith(">>> "):
            found.append((line[4:], []))
        else:
            found[-1][1].append(line)
    return [(code, "\n".join(lines)) for code, lines in found]


def answer_of(code, names):
    """What a line gives, as the document writes it."""
    try:
        if code.startswith("from ") or " = " in code and not code.startswith("["):
            exec(code, names)
            return ""
        found = eval(code, names)
        return "" if found is None else repr(found)
    except TellError as error:
        return f"raises {type(error).__name__}({', '.join(f'{name}={thing!r}' for name, thing in vars(error).items())})"


class ExamplesTest(unittest.TestCase):

    def test_the_examples(self):
        lines = 0
        for block in EXAMPLES.values():
            names = {}
            for code, wanted in steps_of(block):
                self.assertEqual(answer_of(code, names), wanted, code)
                lines += 1
        self.assertEqual((len(EXAMPLES), lines), (13, 59))


if __name__ == "__main__":
    unittest.main()
