"""Concepts under numbers: each concept, and each of which it is built, has one number."""

from tellalike.concepts import bottom_up


class Table:
    """Concepts under numbers from 0 on, in the order in which they come, inner ones before outer ones.

    shapes has, under its number, what a concept is: ("all",), ("none",), ("word", name), ("and", c, d) or
    ("some", role, c), with numbers in the place of the inner concepts; or ("own", label) for what is no concept.
    Concepts that are joined with themselves again and again are far greater than what is kept of them here, and are
    equal exactly if their numbers are.
    """

    def __init__(self):
        self.shapes = []
        self.concepts = []
        self.sizes = []
        self._numbers = {}

    def number_of(self, concept):
        """The number of what surely is a concept."""
        found = []
        for item in bottom_up(concept):
            if item[0] == "and":
                second = found.pop()
                found.append(self.number_of_and(found.pop(), second))
            elif item[0] == "some":
                found.append(self.number_of_some(item[1], found.pop()))
            else:
                found.append(self._enter(item, item, 1))
        return found.pop()

    def number_of_and(self, first, second):
        """The number of the "and" of the concepts with these numbers."""
        concept = ("and", self.concepts[first], self.concepts[second])
        return self._enter(("and", first, second), concept, self.sizes[first] + self.sizes[second])

    def number_of_some(self, role, inner):
        """The number of the "some" with the role and the concept with this number."""
        return self._enter(("some", role, inner), ("some", role, self.concepts[inner]), 1 + self.sizes[inner])

    def number_of_own(self, label):
        """The number of what is no concept, but can stand in the place of a name; the label is its own."""
        return self._enter(("own", label), ("own", label), 1)

    def known_some(self, role, inner):
        """The number of this "some", None if it has none yet."""
        return self._numbers.get(("some", role, inner))

    def _enter(self, shape, concept, size):
        if shape not in self._numbers:
            self._numbers[shape] = len(self.shapes)
            self.shapes.append(shape)
            self.concepts.append(concept)
            self.sizes.append(size)
        return self._numbers[shape]
