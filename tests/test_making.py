"""tellalike.making and tellalike.comparing: the concepts that are kept for states, and what a comparison asks."""

import random
import unittest

from oracles import made_book
from samples import A, ALL, B, NONE
from tellalike.comparing import Comparison, sentence_holds, table_holds
from tellalike.concepts import bottom_up, is_in, size
from tellalike.covering import judge_cover
from tellalike.errors import TooMany
from tellalike.making import Maker, cheapest
from tellalike.sides import Sides
from tellalike.states import state_of, states_of


class CheapestTest(unittest.TestCase):

    def test_each_concept_has_its_state_and_its_size(self):
        source, costs = random.Random(151), set()
        for _ in range(120):
            one, other = made_book(source, 2, 3, names="abc"), made_book(source, 3, 3, names="abc")
            vocabulary = source.choice(((("a", "b"), ("r",)), (("a",), ("r", "s")), (("a", "b", "c"), ()), ((), ("r",))))
            sides = Sides(one, other, vocabulary)
            maker = Maker(sides, vocabulary, sides.rounds[-1])
            try:
                found = cheapest(maker, vocabulary, 40)
            except TooMany:
                self.assertRaises(TooMany, states_of, one, other, vocabulary)
                continue
            self.assertEqual(tuple(sorted((maker.listed(state), cost) for state, (cost, _) in found.items())), states_of(one, other, vocabulary))
            for state, (cost, concept) in found.items():
                costs.add(cost)
                self.assertEqual((size(concept), state_of(one, other, vocabulary, concept)), (cost, maker.listed(state)))
                self.assertTrue(is_in(concept, vocabulary) and NONE not in bottom_up(concept))
        self.assertTrue({1, 2, 3, 4, 5} <= costs)


class ComparisonTest(unittest.TestCase):

    def test_left_and_cost(self):
        words = (("a", "b"), ())
        self.assertEqual((Comparison(((A, B),), (), words).left, Comparison(((A, B),), (), words).cost), (None, None))
        self.assertEqual((Comparison((), ((A, B),), words).left, Comparison((), ((A, B),), words).cost), (A, 1))
        self.assertEqual(Comparison((), ((A, B),), words).certificate(), judge_cover((), ((A, B),), words))

    def test_tables_and_what_is_no_sentence_raise_nothing(self):
        many = (("a", "b", "c", "d", "e", "f"), ("r",))
        self.assertRaises(TooMany, Comparison, (), (), many)
        self.assertIs(table_holds((), (), many, (), ()), False)
        self.assertIs(table_holds((), (), (("a",), ()), (), (((ALL,), (ALL,), ()), ((ALL, A), (ALL, A), ()))), True)
        for thing in (None, (), ("sentence",), ("covered", (), ()), ["sentence", A, B, (), (), 0]):
            self.assertIs(sentence_holds((), (), many, thing), False)


if __name__ == "__main__":
    unittest.main()
