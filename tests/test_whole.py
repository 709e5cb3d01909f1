"""What the document promises over the whole program, on many drawn books, vocabularies, certificates and deeds."""

import itertools
import random
import unittest

from oracles import concept_of_size, made_book
from samples import A, ALL, B, NONE, some
from test_data import made_data
from tellalike.concepts import is_book, is_concept, is_vocabulary, read_book, size, vocabulary_of_book
from tellalike.covering import are_alike, cover_holds, does_cover, judge_cover
from tellalike.data import data_holds, data_of, does_tell_of, judge_data, judge_thing, thing_holds, things_of
from tellalike.desks import Desk, read_desk
from tellalike.editions import border_holds, does_see, first_like, judge_border, steps
from tellalike.errors import TooMany
from tellalike.joins import join, join_holds, judge_join, quarrels
from tellalike.lines import are_lines, lines_hold, sentences_of
from tellalike.looks import greatest, simulated_holds
from tellalike.parts import book_of, judge_least, judge_part, least_holds, needed, part_holds
from tellalike.states import are_pairs, is_good, states_of
from tellalike.taken import is_taken_out, take_out, taken_holds
from tellalike.telling import does_tell, judge_told, told_holds
from tellalike.worlds import is_world, judge_model, things_in

VOCABULARIES = ((("a", "b"), ()), (("a",), ("r",)), (("a", "b"), ("r",)), ((), ("r", "s")), (("a", "b", "c"), ()), ((), ()))


def near(source, book):
    """A book that differs from this one in little."""
    found = list(book)
    kind = source.random()
    if kind < 0.4 and found:
        found.pop(source.randrange(len(found)))
    elif kind < 0.8:
        found.append(made_book(source, 1, 3, names="abc")[0])
    else:
        source.shuffle(found)
    return tuple(found)


def drawn(seed, many):
    """Books near to each other, with a vocabulary."""
    source = random.Random(seed)
    for _ in range(many):
        first = made_book(source, source.randint(1, 3), 3, names="abc", odd=source.choice([0, 0.08]))
        second = near(source, first)
        yield source, (first, second, near(source, second)), source.choice(VOCABULARIES)


def asked(function, *arguments):
    """What the function gives; None if it raises TooMany."""
    try:
        return function(*arguments)
    except TooMany:
        return None


class WholeTest(unittest.TestCase):

    def test_covering_is_an_order(self):
        covered = 0
        for _, books, vocabulary in drawn(131, 120):
            answers = {}
            for one, other in itertools.product(range(3), repeat=2):
                answers[(one, other)] = asked(does_cover, books[one], books[other], vocabulary)
            for k in range(3):
                self.assertIn(answers[(k, k)], (True, None))
            for one, two, three in itertools.permutations(range(3)):
                if answers[(one, two)] and answers[(two, three)]:
                    self.assertIn(answers[(one, three)], (True, None))
                    covered += 1
            for one, other in itertools.combinations(range(3), 2):
                both_ways = answers[(one, other)], answers[(other, one)]
                if None not in both_ways:
                    self.assertIs(are_alike(books[one], books[other], vocabulary), both_ways == (True, True))
                    self.assertIs(does_see(books[one], books[other], vocabulary), both_ways != (True, True))
        self.assertGreater(covered, 100)

    def test_exactly_one_kind_of_certificate(self):
        """Whatever is right for two books, nothing of the other kind is accepted."""
        pool = []
        for _, books, vocabulary in drawn(132, 60):
            found = asked(judge_cover, *books[:2], vocabulary)
            if found:
                pool.append((books[:2], vocabulary, found))
        accepted = 0
        for (books, vocabulary, found), (_, _, other) in itertools.product(pool, repeat=2):
            if cover_holds(*books, vocabulary, other):
                self.assertEqual(other[0], found[0])
                if found[0] == "sentence":
                    self.assertEqual(size(other[1]), size(found[1]))
                accepted += 1
        self.assertGreater(accepted, len(pool) + 5)

    def test_certificates_of_covering_in_other_parts(self):
        kinds = {"covered": 0, "sentence": 0}
        for _, (one, other, _), vocabulary in drawn(133, 500):
            found = asked(judge_cover, one, other, vocabulary)
            if found is None:
                continue
            kinds[found[0]] += 1
            if found[0] == "covered":
                self.assertIs(are_pairs(one, other, vocabulary, found[1]), True)
                self.assertEqual(found[2], tuple(state for state, _ in states_of(one, other, vocabulary)))
                self.assertTrue(all(is_good(one, other, vocabulary, state) for state in found[2]))
                self.assertIs(data_holds(one, other, vocabulary, found), True)
                if set(one) <= set(other):
                    part = tuple(other.index(axiom) for axiom in sorted(set(one), key=other.index))
                    table = asked(judge_cover, book_of(other, part), other, vocabulary)
                    if table:
                        self.assertIs(part_holds(other, vocabulary, part, ("enough",) + table[1:]), True)
            else:
                _, left, right, lines, world, x = found
                self.assertIs(lines_hold(other, left, right, lines), True)
                self.assertEqual(sentences_of(other, lines)[-1], (left, right))
                self.assertIs(told_holds(other, left, right, ("told", lines)), True)
                self.assertIs(told_holds(one, left, right, ("world", world, x)), True)
                self.assertEqual(judge_model(world, one), ("model",))
                self.assertIs(does_tell(other, left, right) and not does_tell(one, left, right), True)
                self.assertIs(data_holds(one, other, vocabulary, found), False)
                self.assertIs(taken_holds(other, vocabulary, 0, ("rest", (), (), found)), cover_holds((), other, vocabulary, found))
        self.assertGreater(min(kinds.values()), 20)

    def test_certificates_of_data_in_other_parts(self):
        for _, (one, other, _), vocabulary in drawn(134, 200):
            found = asked(judge_data, one, other, vocabulary)
            if found is None or found[0] == "covered":
                continue
            _, facts, x, concept, told, world = found
            for book, answer in ((other, told), (one, world)):
                self.assertIn(asked(thing_holds, book, facts, x, concept, answer), (True, None))
            cover = judge_cover(one, other, vocabulary)
            self.assertEqual((facts, x, concept), (data_of(cover[1]), "a", cover[2]))

    def test_what_one_that_covers_tells_of_data(self):
        told = 0
        for source, (one, other, _), _ in drawn(135, 150):
            vocabulary = source.choice(((("a", "b"), ()), (("a",), ("r",)), (("a", "b"), ("r",))))
            if not asked(does_cover, one, other, vocabulary):
                continue
            for _ in range(10):
                data = made_data(source, "xyz", 5, vocabulary[0], vocabulary[1] or "r")
                data = tuple(fact for fact in data if fact[0] != "tie" or vocabulary[1])
                if not data:
                    continue
                concept = concept_of_size(source, source.randint(1, 3) if vocabulary[1] else 1, vocabulary[0], vocabulary[1] or "r", 0.1)
                answers = [asked(does_tell_of, book, data, things_of(data)[0], concept) for book in (other, one)]
                if answers[0]:
                    told += 1
                    self.assertIn(answers[1], (True, None))
        self.assertGreater(told, 100)

    def test_borders_and_what_they_are_made_of(self):
        for _, (one, other, third), _ in drawn(136, 60):
            whole = (("a", "b"), ("r",))
            border = asked(judge_border, one, other, whole)
            if border is None:
                continue
            self.assertIs(border_holds(one, other, whole, border), True)
            for few, side, sentence in border[1]:
                self.assertIs(does_see(one, other, few), True)
                self.assertIs(cover_holds(*((other, one) if side == "lost" else (one, other)), few, sentence), True)
            for few, *tables in border[2]:
                self.assertIs(does_see(one, other, few), False)
                self.assertIs(data_holds(other, one, few, ("covered", *tables[:2])), True)
                self.assertIs(data_holds(one, other, few, ("covered", *tables[2:])), True)
                editions = (one, other, third, one)
                found, first = asked(steps, editions, few), asked(first_like, editions, few)
                if found is not None and first is not None:
                    self.assertNotIn(1, found)
                    self.assertEqual((first[:2], first[3]), ((0, 0), 0))

    def test_parts_and_what_they_are_made_of(self):
        for _, (_, book, _), vocabulary in drawn(137, 100):
            least = asked(judge_least, book, vocabulary)
            if least is None:
                continue
            _, positions, pairs, states, losses = least
            self.assertIs(least_holds(book, vocabulary, least), True)
            self.assertIs(part_holds(book, vocabulary, positions, ("enough", pairs, states)), True)
            few = book_of(book, positions)
            self.assertIs(cover_holds(few, book, vocabulary, ("covered", pairs, states)), True)
            self.assertIs(asked(are_alike, few, book, vocabulary) is not False, True)
            for k, loss in zip(positions, losses):
                without = tuple(j for j in positions if j != k)
                self.assertIs(part_holds(book, vocabulary, without, ("lost", loss)), True)
                self.assertEqual(asked(judge_part, book, vocabulary, without), ("lost", loss))
            self.assertTrue(set(asked(needed, book, vocabulary) or ()) <= set(positions))
            again = asked(judge_least, few, vocabulary)
            if again:
                self.assertEqual(again[1], tuple(range(len(few))))

    def test_what_is_taken_out(self):
        kinds = {"whole": 0, "rest": 0}
        for source, (book, _, _), vocabulary in drawn(138, 400):
            k = source.randint(0, 4)
            found = asked(take_out, book, vocabulary, k)
            if found is None:
                continue
            kinds[found[0]] += 1
            axioms = found[1]
            self.assertIs(taken_holds(book, vocabulary, k, found), True)
            self.assertIs(is_taken_out(book, vocabulary, axioms), True)
            self.assertIn(asked(does_cover, book, axioms, vocabulary), (True, None))
            for axiom, lines in zip(axioms, found[2]):
                self.assertIs(told_holds(book, *axiom, ("told", lines)), True)
            last = ("covered", *found[3:]) if found[0] == "whole" else found[3]
            self.assertIs(cover_holds(axioms, book, vocabulary, last), True)
            if found[0] == "whole":
                self.assertIs(taken_holds(book, vocabulary, k + 1, found), True)
                names = [(vocabulary[0][:1], ()), (vocabulary[0], ()), ((), vocabulary[1])]
                self.assertTrue(all(asked(are_alike, axioms, book, few) in (True, None) for few in names))
            else:
                self.assertIs(taken_holds(book, vocabulary, k + 1, found), False)
        self.assertGreater(min(kinds.values()), 10)

    def test_joins_and_their_order(self):
        for _, (left, base, right), vocabulary in drawn(139, 120):
            self.assertEqual(quarrels(base, left, right, vocabulary), quarrels(base, right, left, vocabulary))
            self.assertIn(asked(are_alike, join(base, left, right), join(base, right, left), vocabulary), (True, None))
            self.assertEqual(set(join(base, base[::-1], right)), set(right))
            self.assertIn(asked(does_cover, join(base, base, right), right, vocabulary), (True, None))
            grown = base + left
            self.assertIn(asked(does_cover, join(base, grown, base + right), grown, vocabulary), (True, None))
            found = asked(judge_join, base, left, right, vocabulary)
            if found is None:
                continue
            self.assertIs(join_holds(base, left, right, vocabulary, found), True)
            whole = join(base, left, right)
            for book, part in ((left, found[1]), (right, found[2])):
                self.assertIs(cover_holds(whole, book, vocabulary, part), True)
            for name, lines, worlds in found[3]:
                self.assertIs(lines_hold(whole, ("word", name), NONE, lines), True)
                self.assertEqual([told_holds(book, ("word", name), NONE, world) for book, world in zip((left, right), worlds)], [True, True])

    def test_desks_and_what_they_are_made_of(self):
        for source, (first, second, third), vocabulary in drawn(140, 60):
            desk = Desk(first)
            desk.do(("mark", "base"))
            for axiom in second:
                desk.do(("add", axiom))
            desk.do(("mark", "side"))
            desk.do(("back", "base"))
            for axiom in third:
                desk.do(("add", axiom))
            left = desk.book()
            desk.do(("join", "base", "side"))
            self.assertEqual(desk.book(), join(first, left, first + second))
            found = asked(desk.since, "base", vocabulary)
            if found:
                self.assertIs(cover_holds(first, desk.book(), vocabulary, found[0]), True)
                self.assertIs(cover_holds(desk.book(), first, vocabulary, found[1]), True)
                self.assertEqual(found[1][0], "covered")
            self.assertEqual(read_desk(desk.text()), desk)
            concept = concept_of_size(source, 2)
            self.assertIs(desk.tells(A, concept), does_tell(desk.book(), A, concept))

    def test_what_is_returned_can_be_passed(self):
        source = random.Random(141)
        for _ in range(60):
            book = made_book(source, 3, 3)
            self.assertIs(is_vocabulary(vocabulary_of_book(book)), True)
            data = made_data(source, "xyz", 6)
            x, concept = things_of(data)[0], concept_of_size(source, 3)
            found = asked(judge_thing, book, data, x, concept)
            if found is None:
                continue
            self.assertIs(thing_holds(book, data, x, concept, found), True)
            if found[0] == "world":
                self.assertIs(is_world(found[1]), True)
                self.assertNotIn(dict(found[2])[x], things_in(found[1], concept))
                same = greatest(found[1], found[1], (("a", "b"), ("r",)))
                self.assertIs(simulated_holds(found[1], 0, found[1], 0, (("a", "b"), ("r",)), ("simulated", same)), True)
            else:
                self.assertIs(are_lines(book, found[2]), True)
            told = judge_told(book, concept, B)
            self.assertIs(told_holds(book, concept, B, told), True)

    def test_vocabularies_of_the_books(self):
        """For the vocabulary of a book itself, it is covered exactly by the books that tell its axioms."""
        for _, (one, other, _), _ in drawn(142, 80):
            vocabulary = vocabulary_of_book(other)
            covered = asked(does_cover, one, other, vocabulary)
            if covered is not None:
                self.assertIs(covered, all(does_tell(one, left, right) for left, right in other))
                self.assertTrue(is_book(other) and all(is_concept(side) for axiom in other for side in axiom))

    def test_a_certificate_for_other_arguments(self):
        one, other = read_book("each a is b"), read_book("each a is b\neach b is some r a")
        words = (("a", "b"), ("r",))
        found = judge_cover(one, other, words)
        self.assertEqual(found[:3], ("sentence", B, some("r", ALL)))
        for arguments in ((other, one, words), (one, one, words), (other, other, words), (one, other, (("a",), ("r",))), (one, other, (("b",), ())), ((), one, words)):
            self.assertIs(cover_holds(*arguments, found), False)
        self.assertIs(cover_holds(one, other, (("b", "c"), ("r",)), found), True)


if __name__ == "__main__":
    unittest.main()
