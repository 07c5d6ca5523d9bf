import itertools
import random
import unittest

from samples import SMALL_YARDS, YARDS, drawn_yards, full_yard, tree_count
from sandyard.dials import lasting
from sandyard.things import between
from sandyard.trees import count_of, trees

RING = (2, ((0, 1, 1), (0, 2, 1), (1, 2, 1)))
PATH = (5, ((0, 5, 1), (1, 2, 1), (2, 3, 1), (3, 4, 1), (4, 5, 1)))


def many_yards(seed):
    return list(YARDS) + list(SMALL_YARDS) + drawn_yards(random.Random(seed), 8)


def lead_to_ditch(count, pairs):
    reached = {0}
    for _ in range(count):
        for pair in pairs:
            if reached & set(pair):
                reached.update(pair)
    return len(reached) == count + 1


def told_trees(yard):
    """[5.1] by its words: all choices of count pairs with a tie between, those that lead to the ditch."""
    count, ties = yard
    told = []
    for choice in itertools.combinations(ties, count):
        tree = tuple((one, other) for one, other, many in choice)
        if lead_to_ditch(count, tree):
            # One tie of each pair is taken: so many ways there are to choose.
            ways = list(itertools.product(*(range(many) for one, other, many in choice)))
            told.append((tree, len(ways)))
    return tuple(sorted(told))


class Whole(unittest.TestCase):
    def assertTold(self, answer, told):
        # By their writing: True == 1 and would pass as a whole number else.
        self.assertEqual(repr(answer), repr(told))


class Trees(Whole):
    def test_by_hand(self):
        self.assertTold(trees((1, ((0, 1, 1),))), ((((0, 1),), 1),))
        self.assertTold(trees((1, ((0, 1, 4),))), ((((0, 1),), 4),))
        self.assertTold(trees(RING), ((((0, 1), (0, 2)), 1), (((0, 1), (1, 2)), 1), (((0, 2), (1, 2)), 1)))
        self.assertTold(trees((2, ((0, 1, 1), (1, 2, 3)))), ((((0, 1), (1, 2)), 3),))
        many = (2, ((0, 1, 2), (0, 2, 3), (1, 2, 4)))
        self.assertTold(trees(many), ((((0, 1), (0, 2)), 6), (((0, 1), (1, 2)), 8), (((0, 2), (1, 2)), 12)))
        self.assertTold(trees(PATH), ((((0, 5), (1, 2), (2, 3), (3, 4), (4, 5)), 1),))

    def test_places_that_lead_round_among_themselves_are_no_tree(self):
        yard = (4, ((0, 4, 1), (1, 2, 1), (1, 3, 1), (2, 3, 1), (3, 4, 1)))
        told = trees(yard)
        self.assertEqual(len(told), 3)
        self.assertTrue(all((0, 4) in tree and (3, 4) in tree for tree, many in told))

    def test_against_all_choices_of_so_many_pairs(self):
        for yard in many_yards(301):
            self.assertTold(trees(yard), told_trees(yard))

    def test_full_yards(self):
        for count in range(1, 6):
            for many in range(1, 5):
                told = trees(full_yard(count, many))
                self.assertEqual(len(told), (count + 1) ** (count - 1))
                self.assertEqual({ways for tree, ways in told}, {many ** count})
        self.assertTold(trees(full_yard(5, 1)), told_trees(full_yard(5, 1)))

    def test_pair_by_pair(self):
        for yard in many_yards(302):
            told = trees(yard)
            self.assertTrue(all(earlier < later for earlier, later in zip(told, told[1:])))
            self.assertEqual(len({tree for tree, many in told}), len(told))
            for tree, many in told:
                self.assertEqual(len(tree), yard[0])
                self.assertTrue(all(earlier < later for earlier, later in zip(tree, tree[1:])))
                self.assertTrue(lead_to_ditch(yard[0], tree))
                for one, other in tree:
                    self.assertLess(one, other)
                    self.assertGreaterEqual(between(yard, one, other), 1)

    def test_somewhat_beyond_the_bounds_nothing_is_refused(self):
        six = (6, ((0, 6, 5), (1, 2, 7), (1, 6, 1), (2, 6, 1), (3, 4, 2), (3, 6, 1), (4, 6, 1), (5, 6, 1)))
        self.assertTold(trees(six), told_trees(six))
        self.assertTold(count_of(six), tree_count(six))


class CountOf(Whole):
    def test_by_hand(self):
        self.assertTold(count_of((1, ((0, 1, 1),))), 1)
        self.assertTold(count_of((1, ((0, 1, 4),))), 4)
        self.assertTold(count_of(RING), 3)
        self.assertTold(count_of((2, ((0, 1, 2), (0, 2, 3), (1, 2, 4)))), 26)
        self.assertTold(count_of(PATH), 1)
        self.assertTold(count_of(full_yard(5, 1)), 1296)
        self.assertTold(count_of(full_yard(5, 4)), 1296 * 1024)

    def test_the_sum_of_all_ways(self):
        for yard in many_yards(303):
            self.assertTold(count_of(yard), sum(many for tree, many in told_trees(yard)))
            self.assertTold(count_of(yard), sum(many for tree, many in trees(yard)))

    def test_by_kirchhoffs_determinant(self):
        for yard in many_yards(304):
            self.assertTold(count_of(yard), tree_count(yard))

    def test_as_many_as_lasting_rests(self):
        for yard in SMALL_YARDS + (full_yard(5, 1), full_yard(4, 2)):
            self.assertTold(count_of(yard), len(lasting(yard)))


class NothingChanges(unittest.TestCase):
    def answers(self):
        told = []
        for yard in many_yards(305):
            handed = repr(yard)
            told.append((trees(yard), count_of(yard)))
            self.assertEqual(repr(yard), handed)
        return told

    def test_asked_again_the_same_is_told(self):
        self.assertEqual(repr(self.answers()), repr(self.answers()))


if __name__ == "__main__":
    unittest.main()
