"""Derivations of what came in a growth, and of what follows from it for concepts that were not counted."""

from tellalike.growing import NONE, world_of
from tellalike.matching import Model


def reach(growth, root, goal):
    """Whether the book tells the concept with the number goal of the root, the first kept thing that was made.

    If so, the goal is in the set of the root then, and all that it needs is in the sets, with reasons.
    """
    if goal in growth.sets[root]:
        return True
    if NONE in growth.sets[root]:
        growth.put(root, goal, ("none",))
        return True
    things = _things_in_parts(growth, goal)
    if not things[goal] & 1:
        return False
    # Inner concepts have lesser numbers than those that need them.
    for number, node, reason in sorted(_needed_for(growth, root, goal, things)):
        growth.put(node, number, reason)
    return True


def derivation(growth, root, goal):
    """Lines whose last sentence is that of the root and the goal, which is in its set."""
    needed = facts_behind(growth, (root, goal))
    writing = Writing(growth)
    for node, number in growth.order:
        if (node, number) in needed:
            writing.write(node, number)
    writing.line_of(root, goal)
    return tuple(writing.lines)


class Writing:
    """Lines that are written, and at which of them stands that a concept is in the set of a kept thing."""

    def __init__(self, growth):
        self.lines = []
        self._growth = growth
        self._at = {}

    def write(self, node, number):
        """Writes that the number is in the set, for the reason that it has; what it needs has been written."""
        concepts = self._growth.table.concepts
        reason = self._growth.sets[node][number]
        if reason[0] == "all":
            self._at[(node, number)] = self._add(("all", concepts[node]))
        elif reason[0] == "both":
            first = self.line_of(node, reason[1])
            self._at[(node, number)] = self._add(("both", first, self.line_of(node, reason[2])))
        elif reason[0] != "start":
            self._at[(node, number)] = self._led_on(node, reason, self._step(number, reason))

    def line_of(self, node, number):
        """The position of the line with the sentence of the kept thing and the number.

        What a kept thing begins with needs no line in most cases, so its line is written only here.
        """
        if (node, number) not in self._at:
            self._at[(node, number)] = self._add(("same", self._growth.table.concepts[number]))
        return self._at[(node, number)]

    def _add(self, line):
        self.lines.append(line)
        return len(self.lines) - 1

    def _led_on(self, node, reason, step):
        """The line that leads from the kept thing to what the line step says of what the reason begins with."""
        source = _source(self._growth, reason)
        if self._growth.sets[node][source][0] == "start":
            return step
        return self._add(("chain", self.line_of(node, source), step))

    def _step(self, number, reason):
        """The line from what the reason begins with to the concept with the number."""
        table = self._growth.table
        if reason[0] == "axiom":
            return self._add(("axiom", reason[1]))
        if reason[0] == "none":
            return self._add(("none", table.concepts[number]))
        if reason[0] == "lift":
            _, role, below = table.shapes[reason[1]]
            return self._add(("lift", role, self.line_of(below, reason[2])))
        if reason[0] == "void":
            return self._void(table.shapes[reason[1]])
        _, first, second = table.shapes[reason[1]]
        return self._add((reason[0], table.concepts[first], table.concepts[second]))

    def _void(self, shape):
        """The line from the "some" with this shape, whose inner concept is none by the book, to none."""
        _, role, below = shape
        if below == NONE:
            return self._add(("void", role))
        lifted = self._add(("lift", role, self.line_of(below, NONE)))
        return self._add(("chain", lifted, self._add(("void", role))))


def _source(growth, reason):
    """The number, in the set of the same kept thing, with which a reason of one step begins."""
    if reason[0] == "axiom":
        return growth.axioms[reason[1]][0]
    return NONE if reason[0] == "none" else reason[1]


def facts_behind(growth, fact):
    """The fact, a pair (kept thing, number), and all that it came from; a dict of True."""
    needed = {fact: True}
    todo = [fact]
    while todo:
        latest = todo.pop()
        for other in _premises(growth, latest):
            if other not in needed:
                needed[other] = True
                todo.append(other)
    return needed


def _premises(growth, fact):
    """The facts from which this one came at once."""
    node, number = fact
    reason = growth.sets[node][number]
    if reason[0] == "start" or reason[0] == "all":
        return []
    if reason[0] == "both":
        return [(node, reason[1]), (node, reason[2])]
    found = [(node, _source(growth, reason))]
    if reason[0] == "lift":
        found.append((growth.table.shapes[reason[1]][2], reason[2]))
    elif reason[0] == "void":
        found.append((growth.table.shapes[reason[1]][2], NONE))
    return found


def _things_in_parts(growth, goal):
    """For each part of the concept with the number goal: which of the kept things, in their order, are in it."""
    model = Model(world_of(growth))
    things = {}
    for number in _parts(growth.table.shapes, goal):
        shape = growth.table.shapes[number]
        if shape[0] == "and":
            things[number] = things[shape[1]] & things[shape[2]]
        elif shape[0] == "some":
            things[number] = model.before(shape[1], things[shape[2]])
        else:
            things[number] = model.simple(shape)
    return things


def _parts(shapes, goal):
    """The numbers of the parts of a concept, ascending, so inner ones before outer ones."""
    found = set()
    todo = [goal]
    while todo:
        number = todo.pop()
        if number not in found:
            found.add(number)
            todo.extend(_inner(shapes[number]))
    return sorted(found)


def _inner(shape):
    """The numbers of the concepts that stand directly in the shape of a concept."""
    if shape[0] == "and":
        return shape[1:]
    return shape[2:] if shape[0] == "some" else ()


def _needed_for(growth, root, goal, things):
    """The triples (number, kept thing, reason) that are to be added so that the goal is in the set of the root."""
    place_of = {node: k for k, node in enumerate(growth.sets)}
    found = {}
    todo = [(root, goal)]
    while todo:
        node, number = todo.pop()
        if number in growth.sets[node] or (number, node) in found:
            continue
        shape = growth.table.shapes[number]
        if shape[0] == "and":
            found[(number, node)] = ("both", shape[1], shape[2])
            todo.extend([(node, shape[1]), (node, shape[2])])
        else:
            tie, below = _tie_into(growth, node, shape, place_of, things)
            found[(number, node)] = ("lift", tie, shape[2])
            todo.append((below, shape[2]))
    return [(number, node, reason) for (number, node), reason in found.items()]


def _tie_into(growth, node, wanted, place_of, things):
    """The first "some" in the set of the kept thing by which it is in the wanted one, and the kept thing behind it."""
    ways = []
    for tie in growth.ties[node]:
        _, role, below = growth.table.shapes[tie]
        if role == wanted[1] and things[wanted[2]] >> place_of[below] & 1:
            ways.append((tie, below))
    return ways[0]
