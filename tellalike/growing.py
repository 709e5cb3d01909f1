"""What comes of concepts by a book: kept things, their sets, and how each concept came into them."""

from tellalike.tables import Table

# The numbers of all and none in the table of each growth.
ALL = 0
NONE = 1


class Growth:
    """Kept things of a book ([4.3] of the document) with their closed sets.

    A kept thing goes by the number of its concept in the table; a place of a tree is the kept thing of what stands
    there. The concepts that count are those with a number below `counted`, those of the book have one below `of_book`.
    `sets` has for each kept thing the numbers in its set, each with the reason for which it came. `order` has the pairs
    (kept thing, number) in the order in which they came. `ties` has for each kept thing the "some" in its set.
    Kept things are made only when they are asked for, or when one that has been made is tied to them.
    """

    def __init__(self, book, others):
        """others are concepts that count, with their parts, besides those of the book."""
        self.table = Table()
        self.table.number_of(("all",))
        self.table.number_of(("none",))
        self.axioms = [(self.table.number_of(left), self.table.number_of(right)) for left, right in book]
        self.of_book = len(self.table.shapes)
        for concept in others:
            self.table.number_of(concept)
        self.counted = len(self.table.shapes)
        self.sets = {}
        self.ties = {}
        self.order = []
        self._spread_so_far = 0
        self._tied_to = {}
        self._axioms_from = _positions([left for left, _ in self.axioms])
        self._ands_with = _ands_by_inner(self.table.shapes)

    def add_axiom(self, left, right):
        """Adds an axiom about what has these numbers to those of the book; nothing has been kept yet."""
        self._axioms_from.setdefault(left, []).append(len(self.axioms))
        self.axioms.append((left, right))

    def keep(self, number):
        """Makes the kept thing of the concept with this number, unless it is there, and closes all sets."""
        self._begin(number)
        self._close()

    def closure(self, numbers):
        """The numbers in the closed set of something that has all, and the concepts with these numbers."""
        # No concept has a number below 0, so this is none of the kept things.
        node = -1 - len(self.sets)
        self._make(node)
        self.put(node, ALL, ("all",))
        for number in numbers:
            self.put(node, number, ("start",))
        self._close()
        return list(self.sets[node])

    def put(self, node, number, reason):
        """Puts the number into the set of the kept thing, unless it is there."""
        if number not in self.sets[node]:
            self.sets[node][number] = reason
            self.order.append((node, number))

    def _begin(self, number):
        if number not in self.sets:
            self._make(number)
            self.put(number, number, ("start",))
            self.put(number, ALL, ("all",))

    def _make(self, node):
        self.sets[node] = {}
        self.ties[node] = []
        self._tied_to[node] = []

    def _close(self):
        while self._spread_so_far < len(self.order):
            node, number = self.order[self._spread_so_far]
            self._spread_so_far = self._spread_so_far + 1
            self._spread(node, number)

    def _spread(self, node, number):
        """Adds what comes at once when the number is in the set of the kept thing."""
        shape = self.table.shapes[number]
        if shape[0] == "and":
            self.put(node, shape[1], ("left", number))
            self.put(node, shape[2], ("right", number))
        elif shape[0] == "some":
            self._tie(node, number, shape[2])
        elif number == NONE:
            for known in range(self.counted):
                self.put(node, known, ("none",))
        for whole in self._ands_with.get(number, ()):
            _, first, second = self.table.shapes[whole]
            if first in self.sets[node] and second in self.sets[node]:
                self.put(node, whole, ("both", first, second))
        for j in self._axioms_from.get(number, ()):
            self.put(node, self.axioms[j][1], ("axiom", j))
        for above, tie in self._tied_to[node]:
            self._pass_on(above, tie, number)

    def _tie(self, node, tie, below):
        """Ties the kept thing to that of the concept below; tie is the number of the "some"."""
        self.ties[node].append(tie)
        self._begin(below)
        self._tied_to[below].append((node, tie))
        for number in list(self.sets[below]):
            self._pass_on(node, tie, number)

    def _pass_on(self, above, tie, number):
        """Adds what comes above because it is tied by the "some" to something with the number in its set."""
        whole = self.table.known_some(self.table.shapes[tie][1], number)
        if whole is not None and whole < self.counted:
            self.put(above, whole, ("lift", tie, number))
        if number == NONE:
            self.put(above, NONE, ("void", tie))


def grown_for(book, concept):
    """A growth by the book in which the first kept thing is that of the concept, and its number."""
    growth = Growth(book, ())
    root = growth.table.number_of(concept)
    growth.keep(root)
    return growth, root


def world_of(growth):
    """The world of the kept things, in the order in which they were made."""
    place_of = {node: k for k, node in enumerate(growth.sets)}
    names = {}
    roles = {}
    for node, place in place_of.items():
        for number in growth.sets[node]:
            shape = growth.table.shapes[number]
            if shape[0] == "word":
                names.setdefault(shape[1], []).append(place)
        for tie in growth.ties[node]:
            _, role, below = growth.table.shapes[tie]
            roles.setdefault(role, []).append((place, place_of[below]))
    named = [(name, tuple(names[name])) for name in sorted(names)]
    tied = [(role, tuple(sorted(roles[role]))) for role in sorted(roles)]
    return (len(place_of), tuple(named), tuple(tied))


def _positions(numbers):
    """For each of the numbers the list of its positions."""
    found = {}
    for j, number in enumerate(numbers):
        found.setdefault(number, []).append(j)
    return found


def _ands_by_inner(shapes):
    """For each number in an "and" among the shapes the list of the numbers of these "and"."""
    found = {}
    for whole, shape in enumerate(shapes):
        if shape[0] == "and":
            found.setdefault(shape[1], []).append(whole)
            if shape[2] != shape[1]:
                found.setdefault(shape[2], []).append(whole)
    return found
