"""Slow answers, word for word as the document defines them, and values made at random."""

import itertools

from samples import ALL, NONE, both, some


def made_concept(source, depth):
    kind = source.randrange(5) if depth > 1 else source.randrange(3)
    if kind < 2:
        return ("word", source.choice("abcr"))
    if kind == 2:
        return source.choice([ALL, ALL, NONE])
    if kind == 3:
        return some(source.choice("rsa"), made_concept(source, depth - 1))
    return both(made_concept(source, depth - 1), made_concept(source, depth - 1))


def made_world(source):
    many = source.randint(1, 6)
    ties = list(itertools.product(range(many), repeat=2))
    names = [(name, tuple(x for x in range(many) if source.random() < 0.5)) for name in "abr"]
    roles = [(role, tuple(tie for tie in ties if source.random() < 0.3)) for role in "as"]
    return (many, tuple(row for row in names if row[1]), tuple(row for row in roles if row[1]))


def concept_of_size(source, many, names="abc", roles="rs", odd=0.05):
    """A concept of this size; none and all stand there with the probability odd each."""
    if many == 1:
        chance = source.random()
        return NONE if chance < odd else ALL if chance < 2 * odd else ("word", source.choice(names))
    if source.random() < 0.55:
        return some(source.choice(roles), concept_of_size(source, many - 1, names, roles, odd))
    first = source.randint(1, many - 1)
    return both(concept_of_size(source, first, names, roles, odd), concept_of_size(source, many - first, names, roles, odd))


def made_book(source, axioms, largest, **more):
    """A book of so many axioms, whose concepts are at most so large."""
    def side():
        return concept_of_size(source, source.randint(1, largest), **more)
    return tuple((side(), side()) for _ in range(axioms))


def all_concepts(vocabulary, many):
    """All concepts of this size in the vocabulary in which none does not occur."""
    if many == 1:
        return [ALL] + [("word", name) for name in vocabulary[0]]
    found = [some(role, inner) for role in vocabulary[1] for inner in all_concepts(vocabulary, many - 1)]
    for k in range(1, many):
        found += [both(c, d) for c in all_concepts(vocabulary, k) for d in all_concepts(vocabulary, many - k)]
    return found


# Concepts and worlds.

def size_by_words(concept):
    if concept[0] == "and":
        return size_by_words(concept[1]) + size_by_words(concept[2])
    return 1 + size_by_words(concept[2]) if concept[0] == "some" else 1


def parts_by_words(concept):
    inner = concept[1:] if concept[0] == "and" else concept[2:] if concept[0] == "some" else ()
    found = {concept}
    for each in inner:
        found |= parts_by_words(each)
    return found


def concepts_by_words(book):
    found = {ALL, NONE}
    for axiom in book:
        for concept in axiom:
            found |= parts_by_words(concept)
    return found


def is_in_by_words(world, concept, x):
    """[2.2] word for word, slowly."""
    many, names, roles = world
    if concept[0] == "word":
        return any(name == concept[1] and x in things for name, things in names)
    if concept[0] == "and":
        return is_in_by_words(world, concept[1], x) and is_in_by_words(world, concept[2], x)
    if concept[0] == "some":
        ties = [tie for role, found in roles for tie in found if role == concept[1]]
        return any(x == first and is_in_by_words(world, concept[2], second) for first, second in ties)
    return concept == ALL


def is_counter_world(book, left, right, world, x):
    """Whether the world is a model of the book, and its thing x in left and not in right."""
    for c, d in book:
        if any(is_in_by_words(world, c, y) and not is_in_by_words(world, d, y) for y in range(world[0])):
            return False
    return is_in_by_words(world, left, x) and not is_in_by_words(world, right, x)


# Derivations.

def sentences_by_words(book, lines):
    """The sentences of what may have another form than lines only in numbers; None if it is not lines."""
    found = []
    for line in lines:
        kind, rest = line[0], line[1:]
        if kind in ("axiom", "both", "chain") and any(type(k) is not int or k < 0 for k in rest):
            return None
        if kind == "lift" and (type(rest[1]) is not int or not 0 <= rest[1] < len(found)):
            return None
        if kind in ("both", "chain") and max(rest) >= len(found) or kind == "axiom" and rest[0] >= len(book):
            return None
        sentence = _sentence_by_words(book, found, kind, rest)
        if sentence is None or size_by_words(sentence[1]) > 50000:
            return None
        found.append(sentence)
    return found


def _sentence_by_words(book, found, kind, rest):
    if kind == "same":
        return (rest[0], rest[0])
    if kind == "all":
        return (rest[0], ALL)
    if kind == "none":
        return (NONE, rest[0])
    if kind == "axiom":
        return book[rest[0]]
    if kind == "left":
        return (both(*rest), rest[0])
    if kind == "right":
        return (both(*rest), rest[1])
    if kind == "void":
        return (some(rest[0], NONE), NONE)
    if kind == "lift":
        return (some(rest[0], found[rest[1]][0]), some(rest[0], found[rest[1]][1]))
    first, second = found[rest[0]], found[rest[1]]
    if kind == "both":
        return (first[0], both(first[1], second[1])) if first[0] == second[0] else None
    return (first[0], second[1]) if first[1] == second[0] else None


# What a book tells.

class Closing:
    """[4.3]: the sets of the places of a left concept, and of the kept things, closed step by step."""

    def __init__(self, book, left, others):
        self.counted = concepts_by_words(book) | parts_by_words(left)
        for other in others:
            self.counted |= parts_by_words(other)
        self.sets, self.ties = {}, set()
        self.place(("root",), left)
        for filler in {c[2] for c in self.counted if c[0] == "some"}:
            self.sets[("kept", filler)] = {ALL, filler}
        while self.step(book):
            pass

    def place(self, key, concept):
        self.sets.setdefault(key, {ALL})
        if concept[0] == "and":
            self.place(key, concept[1])
            self.place(key, concept[2])
        elif concept[0] == "some":
            below = key + (len(self.sets),)
            self.ties.add((key, concept[1], below))
            self.place(below, concept[2])
        else:
            self.sets[key].add(concept)

    def step(self, book):
        before = sum(map(len, self.sets.values())), len(self.ties)
        for key, mine in self.sets.items():
            for c in list(mine):
                if c[0] == "and":
                    mine |= {c[1], c[2]}
                elif c[0] == "some":
                    self.ties.add((key, c[1], ("kept", c[2])))
                elif c == NONE:
                    mine |= self.counted
            mine |= {c for c in self.counted if c[0] == "and" and c[1] in mine and c[2] in mine}
            mine |= {right for left, right in book if left in mine}
        for key, role, below in list(self.ties):
            self.sets[key] |= {c for c in self.counted if c[0] == "some" and c[1] == role and c[2] in self.sets[below]}
            if NONE in self.sets[below]:
                self.sets[key].add(NONE)
        return before != (sum(map(len, self.sets.values())), len(self.ties))


def told_by_words(book, left, right):
    return right in Closing(book, left, [right]).sets[("root",)]


def type_by_words(book, concept):
    return tuple(sorted(concepts_by_words(book) & Closing(book, concept, []).sets[("root",)]))


def joined_concept(concepts):
    """The "and" of the concepts, all if there are none."""
    found = None
    for concept in concepts:
        found = concept if found is None else both(found, concept)
    return ALL if found is None else found


# Simulations.

def weaker_by_words(concept):
    if concept[0] == "and":
        found = {concept[1], concept[2]} | {both(c, concept[2]) for c in weaker_by_words(concept[1])}
        return found | {both(concept[1], c) for c in weaker_by_words(concept[2])}
    if concept[0] == "some":
        return {ALL} | {some(concept[1], c) for c in weaker_by_words(concept[2])}
    return set() if concept == ALL else {ALL}


def tied_to(world, role, x):
    return [second for own, pairs in world[2] for first, second in pairs if own == role and first == x]


def has_names(world, x, second, y, vocabulary):
    return all(
        not is_in_by_words(world, ("word", name), x) or is_in_by_words(second, ("word", name), y) for name in vocabulary[0]
    )


def is_simulation(world, second, vocabulary, pairs):
    for x, y in pairs:
        if not has_names(world, x, second, y, vocabulary):
            return False
        for role in vocabulary[1]:
            for tied in tied_to(world, role, x):
                if not any((tied, other) in pairs for other in tied_to(second, role, y)):
                    return False
    return True


def rounds_by_words(world, second, vocabulary):
    """The rounds of all pairs that have one, a dict."""
    everything = list(itertools.product(range(world[0]), range(second[0])))
    found = {(x, y): 0 for x, y in everything if not has_names(world, x, second, y, vocabulary)}
    for t in range(len(everything) + 1):
        for x, y in everything:
            ways = [(role, tied) for role in vocabulary[1] for tied in tied_to(world, role, x)]
            for role, tied in ways:
                if (x, y) not in found and all(found.get((tied, k), t + 1) <= t for k in tied_to(second, role, y)):
                    found[(x, y)] = t + 1
    return found


# States.

class Books:
    """Two books and a vocabulary: [6.1] to [6.4], with what the books tell answered by a Closing."""

    def __init__(self, one, other, vocabulary):
        self.one, self.other, self.vocabulary = one, other, vocabulary
        self.names = [("word", name) for name in vocabulary[0]]
        self.wide = [concepts_by_words(book) | set(self.names) for book in (one, other)]
        self.fillers = [sorted({c[2] for c in concepts_by_words(book) if c[0] == "some"}) for book in (one, other)]
        self._closures = {}
        self.kept = [{d: self.closure(k, {d}) for d in self.fillers[k]} for k in (0, 1)]
        self.rounds = self._rounds()
        every = itertools.product(self.fillers[1], self.fillers[0])
        self.pairs = tuple(sorted(pair for pair in every if pair not in self.rounds))

    def closure(self, k, concepts):
        key = (k, frozenset(concepts))
        if key not in self._closures:
            closing = Closing((self.one, self.other)[k], joined_concept(sorted(concepts)), self.names)
            self._closures[key] = tuple(sorted(self.wide[k] & closing.sets[("root",)]))
        return self._closures[key]

    def somes(self, concepts):
        return [(c[1], c[2]) for c in concepts if c[0] == "some" and c[1] in self.vocabulary[1]]

    def fits_at_once(self, d, e):
        far, near = self.kept[1][d], self.kept[0][e]
        return NONE in near or NONE not in far and all(name in near for name in self.names if name in far)

    def are_fitting(self, pairs):
        for d, e in pairs:
            if not self.fits_at_once(d, e):
                return False
            if NONE not in self.kept[0][e]:
                for role, below in self.somes(self.kept[1][d]):
                    if not any((below, f) in pairs for own, f in self.somes(self.kept[0][e]) if own == role):
                        return False
        return True

    def _rounds(self):
        every = list(itertools.product(self.fillers[1], self.fillers[0]))
        found = {pair: 0 for pair in every if not self.fits_at_once(*pair)}
        for t in range(len(every) + 1):
            for d, e in every:
                if (d, e) in found or NONE in self.kept[0][e]:
                    continue
                near = self.somes(self.kept[0][e])
                for role, below in self.somes(self.kept[1][d]):
                    if all(found.get((below, f), t + 1) <= t for own, f in near if own == role):
                        found.setdefault((d, e), t + 1)
        return found

    def reaches(self, state, tie):
        if NONE in state[0] or tie in state[2]:
            return True
        return any(role == tie[0] and (tie[1], e) in self.pairs for role, e in self.somes(state[0]))

    def answers(self, state, concepts):
        """Whether the state has, or reaches, the names and ties of the vocabulary among the concepts."""
        if not all(name in state[0] for name in self.names if name in concepts):
            return False
        return all(self.reaches(state, tie) for tie in self.somes(concepts))

    def is_good(self, state):
        return NONE in state[0] or NONE not in state[1] and self.answers(state, state[1])

    def state_of(self, concept):
        if concept == ALL:
            return (self.closure(0, ()), self.closure(1, ()), ())
        if concept[0] == "word":
            return (self.closure(0, {concept}), self.closure(1, {concept}), ())
        if concept[0] == "and":
            return self.joined(self.state_of(concept[1]), self.state_of(concept[2]))
        return self.lifted(self.state_of(concept[2]), concept[1])

    def joined(self, first, second):
        sides = [self.closure(k, set(first[k]) | set(second[k])) for k in (0, 1)]
        return (sides[0], sides[1], tuple(sorted(set(first[2]) | set(second[2]))))

    def lifted(self, state, role):
        sides = []
        for k in (0, 1):
            above = {NONE} if NONE in state[k] else {some(role, c) for c in state[k]} & self.wide[k]
            sides.append(self.closure(k, above))
        standing = [d for d in self.fillers[1] if NONE in state[0] or self.answers(state, self.kept[1][d])]
        return (sides[0], sides[1], tuple((role, d) for d in standing))

    def reachable(self, most):
        """The reachable states, by adding; None if there are more than most."""
        found = {self.state_of(ALL)}
        named = [self.state_of(name) for name in self.names]
        while True:
            lifted = [self.lifted(state, role) for state in found for role in self.vocabulary[1]]
            grown = found | {self.joined(state, item) for state in found for item in named + lifted}
            if len(grown) > most:
                return None
            if grown == found:
                return found
            found = grown

    def costs(self, states):
        """The least size of a concept for each state: for each size, all that is made of lesser sizes."""
        least = {self.state_of(ALL): 1}
        for name in self.names:
            least.setdefault(self.state_of(name), 1)
        size = 1
        while len(least) < len(states):
            size += 1
            known = list(least.items())
            for state, cost in known:
                if cost == size - 1:
                    for role in self.vocabulary[1]:
                        least.setdefault(self.lifted(state, role), size)
                for other, more in known:
                    if cost + more == size:
                        least.setdefault(self.joined(state, other), size)
        return least
