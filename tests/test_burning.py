import itertools
import random
import unittest

from samples import YARDS, all_rests, drawn_grains, drawn_yards, told_burn, told_rests, told_sizes, tree_count
from sandyard.burning import burn, is_lasting
from sandyard.errors import NoRest, NoText, NotLasting, NoTumble, NoYard, SandError
from sandyard.tumbling import settled

LINE = (2, ((0, 1, 1), (1, 2, 3)))
RING = (2, ((0, 1, 1), (0, 2, 1), (1, 2, 1)))
PATH = (5, ((0, 5, 1), (1, 2, 1), (2, 3, 1), (3, 4, 1), (4, 5, 1)))
STAR = (5, ((0, 1, 1), (0, 2, 2), (0, 3, 3), (0, 4, 4), (0, 5, 1)))


def stops_no_group(yard, grains):
    """Whether in each group of places one has at least as many grains as ties within the group."""
    places = range(1, yard[0] + 1)
    for length in places:
        for group in itertools.combinations(places, length):
            within = {place: 0 for place in group}
            for one, other, many in yard[1]:
                if one in group and other in group:
                    within[one] += many
                    within[other] += many
            if all(grains[place - 1] < within[place] for place in group):
                return False
    return True


def some_rests(rng, yard, many):
    limits = told_sizes(yard)
    below = tuple(size - 1 for size in limits)
    drawn = [tuple(rng.randrange(size) for size in limits) for _ in range(many)]
    return [below, (0,) * yard[0]] + drawn


class Burn(unittest.TestCase):
    def test_one_place_burns_with_any_grains(self):
        self.assertEqual(burn((1, ((0, 1, 1),)), (0,)), ((1,),))
        for heap in range(4):
            self.assertEqual(burn((1, ((0, 1, 4),)), (heap,)), ((1,),))

    def test_no_place_burns(self):
        self.assertEqual(burn(LINE, (0, 0)), ())
        self.assertEqual(burn(LINE, (2, 2)), ())
        self.assertEqual(burn(RING, (0, 0)), ())
        self.assertEqual(burn(PATH, (0, 0, 0, 0, 0)), ())
        self.assertEqual(burn(PATH, (0, 1, 1, 1, 0)), ())

    def test_all_burn_in_one_turn(self):
        self.assertEqual(burn(STAR, (0, 0, 0, 0, 0)), ((1, 2, 3, 4, 5),))
        self.assertEqual(burn(RING, (1, 1)), ((1, 2),))

    def test_all_burn_turn_by_turn(self):
        self.assertEqual(burn(LINE, (3, 0)), ((1,), (2,)))
        self.assertEqual(burn(RING, (0, 1)), ((2,), (1,)))
        self.assertEqual(burn(RING, (1, 0)), ((1,), (2,)))
        self.assertEqual(burn(PATH, (0, 1, 1, 1, 1)), ((5,), (4,), (3,), (2,), (1,)))
        two_ways = (4, ((0, 4, 2), (1, 3, 1), (2, 4, 1), (3, 4, 1)))
        self.assertEqual(burn(two_ways, (0, 0, 1, 3)), ((4,), (2, 3), (1,)))

    def test_a_burn_that_stops(self):
        self.assertEqual(burn(PATH, (0, 1, 0, 1, 1)), ((5,), (4,)))
        self.assertEqual(burn(PATH, (0, 0, 1, 1, 1)), ((5,), (4,), (3,)))
        self.assertEqual(burn((3, ((0, 1, 1), (0, 2, 2), (0, 3, 1), (1, 3, 2))), (1, 0, 1)), ((2,),))

    def test_places_that_burn_at_once_do_not_help_each_other(self):
        # Place 1 needs that 2 burns already: it waits a turn, though 2 is asked ahead of or behind it.
        self.assertEqual(burn((2, ((0, 2, 2), (1, 2, 1))), (0, 1)), ((2,), (1,)))
        self.assertEqual(burn((2, ((0, 1, 2), (1, 2, 1))), (1, 0)), ((1,), (2,)))

    def test_by_the_words_of_the_document(self):
        rng = random.Random(91)
        for yard in list(YARDS) + drawn_yards(rng, 20):
            for grains in some_rests(rng, yard, 40):
                told = burn(yard, grains)
                self.assertEqual(repr(told), repr(told_burn(yard, grains)))
                self.assertNotIn((), told)
                burnt = [place for turn in told for place in turn]
                self.assertEqual(len(burnt), len(set(burnt)))
                self.assertTrue(all(list(turn) == sorted(turn) for turn in told))

    def test_every_rest_of_some_yards(self):
        for yard in YARDS[:6] + (LINE, RING, PATH, STAR):
            for grains in all_rests(yard):
                self.assertEqual(burn(yard, grains), told_burn(yard, grains))


class IsLasting(unittest.TestCase):
    def test_by_hand(self):
        self.assertIs(is_lasting(LINE, (3, 0)), True)
        self.assertIs(is_lasting(LINE, (3, 2)), True)
        self.assertIs(is_lasting(LINE, (2, 2)), False)
        self.assertIs(is_lasting(RING, (0, 0)), False)
        self.assertIs(is_lasting(RING, (0, 1)), True)
        self.assertIs(is_lasting(PATH, (0, 1, 1, 1, 1)), True)
        self.assertIs(is_lasting(PATH, (0, 0, 1, 1, 1)), False)
        self.assertIs(is_lasting(STAR, (0, 0, 0, 0, 0)), True)

    def test_whether_all_places_burn(self):
        rng = random.Random(92)
        for yard in list(YARDS) + drawn_yards(rng, 20):
            for grains in some_rests(rng, yard, 40):
                burnt = sorted(place for turn in told_burn(yard, grains) for place in turn)
                self.assertIs(is_lasting(yard, grains), burnt == list(range(1, yard[0] + 1)))
                self.assertIs(is_lasting(yard, grains), stops_no_group(yard, grains))

    def test_as_many_as_trees(self):
        for yard in YARDS[:6] + YARDS[8:11] + (LINE, RING):
            lasting = [grains for grains in all_rests(yard) if is_lasting(yard, grains)]
            self.assertEqual(len(lasting), tree_count(yard))

    def test_what_is_put_on_much_lasts(self):
        rng = random.Random(93)
        for yard in list(YARDS) + drawn_yards(rng, 5):
            full = tuple(size - 1 + more for size, more in zip(told_sizes(yard), drawn_grains(rng, yard, 40)))
            self.assertIs(is_lasting(yard, settled(yard, full)[0]), True)


class NoRestNoBurn(unittest.TestCase):
    def test_grains_that_do_not_rest(self):
        rng = random.Random(94)
        for yard in list(YARDS) + drawn_yards(rng, 5):
            limits = told_sizes(yard)
            wrong = [limits, (1000,) * yard[0]]
            for k in range(yard[0]):
                wrong.append((0,) * k + (limits[k],) + (0,) * (yard[0] - k - 1))
                wrong.append(tuple(size - 1 for size in limits[:k]) + limits[k:])
            for grains in wrong:
                self.assertFalse(told_rests(yard, grains))
                self.assertRaises(NoRest, burn, yard, grains)
                self.assertRaises(NoRest, is_lasting, yard, grains)

    def test_the_refusal_can_be_taken_more_widely(self):
        for asked in (burn, is_lasting):
            self.assertRaises(SandError, asked, LINE, (4, 0))
            self.assertRaises(ValueError, asked, LINE, (4, 0))
            with self.assertRaises(NoRest) as taken:
                asked(LINE, (0, 3))
            self.assertNotIsInstance(taken.exception, (NoYard, NoText, NoTumble, NotLasting))


class NothingChanges(unittest.TestCase):
    def answers(self):
        rng = random.Random(95)
        told = []
        for yard in list(YARDS) + drawn_yards(rng, 5):
            for grains in some_rests(rng, yard, 10):
                handed = repr((yard, grains))
                told.append((burn(yard, grains), is_lasting(yard, grains)))
                self.assertEqual(repr((yard, grains)), handed)
        return told

    def test_asked_again_the_same_is_told(self):
        self.assertEqual(repr(self.answers()), repr(self.answers()))


if __name__ == "__main__":
    unittest.main()
