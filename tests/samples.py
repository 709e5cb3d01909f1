"""What several tests share: names for concepts, values of all kinds, and a reader of prefixes."""

from tellalike.desks import Desk
from tellalike.errors import BadConcept, NothingToUndo

A, B, C = ("word", "a"), ("word", "b"), ("word", "c")
ALL, NONE = ("all",), ("none",)
NO_WORDS = ("all", "none", "some", "and", "each", "is")


def both(first, second):
    return ("and", first, second)


def some(role, concept):
    return ("some", role, concept)


def deep(many):
    """A concept that is nested to the given depth on its left side."""
    concept = A
    for step in range(many - 1):
        concept = both(concept, (B, NONE, C)[step % 3])
    return concept


def odd_values():
    """Values that are no concept, no book but (), no vocabulary, no world and no text of any of them."""
    return [
        None, True, False, 0, 1, -1, 10 ** 39, "", "all", "a", "word", "A", "a\n", "\n", [], {}, [[]], {"all": 1},
        {1: ("all",)}, ["all"], ["word", "a"], [["all"], ["all"]], ("all", "all"), (None,), ((),), (0,), (True,),
        ("word",), ("word", 1), ("word", ("a",)), ("word", "all"), ("word", ["a"]), (["all"],), ({},),
        ([], []), ((), []), BadConcept(1), NothingToUndo(), BadConcept, (BadConcept(1), BadConcept(2)), Desk(()), (Desk(()),),
    ]


class Prefixes:
    """Answers slowly, character by character, what texts of concepts begin with a given text.

    A way is a tuple of what is still to come: characters, "C" for a concept, "R" for a role, and
    ("W", letters) for a name or role of which these letters have been read.
    """

    def spread(self, way):
        """All ways, the first one included, that this one stands for before the next character."""
        if not way:
            return [way]
        head, rest = way[0], way[1:]
        if head == "C":
            ways = [tuple("(C ") + tuple("and ") + ("C", ")"), tuple("all"), tuple("none"), tuple("some ") + ("R", " ", "C")]
            return [each + rest for each in ways] + [(("W", ""),) + rest]
        if head == "R":
            return [(("W", ""),) + rest]
        if isinstance(head, tuple) and head[1] and head[1] not in NO_WORDS:
            return [way] + self.spread(rest)
        return [way]

    def step(self, ways, sign):
        after = set()
        for start in ways:
            for way in self.spread(start):
                if not way:
                    continue
                head, rest = way[0], way[1:]
                if head == sign:
                    after.add(rest)
                elif isinstance(head, tuple) and "a" <= sign <= "z" and len(head[1]) < 10:
                    after.add((("W", head[1] + sign),) + rest)
        return after

    def first_wrong(self, text):
        """The number that BadText has for the text; None if it is the text of a concept."""
        ways = {("C",)}
        for at, sign in enumerate(text):
            ways = self.step(ways, sign)
            if not ways:
                return at
        if any(way == () for start in ways for way in self.spread(start)):
            return None
        return len(text)


def variants(thing):
    """The thing, which is made of tuples, strings and integers, with something otherwise at one place."""
    if isinstance(thing, tuple):
        yield from (list(thing), thing + (0,), thing + ((),), (thing,), ())
        for k, item in enumerate(thing):
            yield thing[:k] + thing[k + 1:]
            yield thing[:k + 1] + thing[k:]
            if k:
                yield thing[:k - 1] + (item, thing[k - 1]) + thing[k + 1:]
            for other in variants(item):
                yield thing[:k] + (other,) + thing[k + 1:]
    elif isinstance(thing, str):
        yield from (thing + "x", thing[:-1], thing.upper(), "a", "r", "all", 0, None, (thing,), [thing])
    else:
        yield from (thing + 1, thing - 1, -1, 10 ** 39, str(thing), None, (thing,), [thing], thing == 1)
