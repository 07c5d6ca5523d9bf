import itertools
import random
import unittest

from samples import HUGE, SMALL_YARDS, YARDS, added, all_rests, drawn_grains, drawn_yards, full_yard
from samples import told_alike, told_forced, told_is_calm, told_lasts, told_rests, told_sizes, tree_count
from sandyard.burning import is_lasting
from sandyard.calming import calm, is_calm
from sandyard.dials import alike

LINE = (2, ((0, 1, 1), (1, 2, 3)))
RING = (2, ((0, 1, 1), (0, 2, 1), (1, 2, 1)))
SINGLE = (1, ((0, 1, 4),))
PATH = (5, ((0, 5, 1), (1, 2, 1), (2, 3, 1), (3, 4, 1), (4, 5, 1)))


def many_yards(seed):
    return list(YARDS) + drawn_yards(random.Random(seed), 8)


def lacking(yard, grains):
    """The sizes, less 1 each, less the grains."""
    return tuple(size - 1 - heap for size, heap in zip(told_sizes(yard), grains))


def calm_rests(yard):
    return [grains for grains in all_rests(yard) if told_is_calm(yard, grains)]


class Whole(unittest.TestCase):
    def assertTold(self, answer, told):
        # By their writing: True == 1 and would pass as a whole number else.
        self.assertEqual(repr(answer), repr(told))


class IsCalm(Whole):
    def test_by_hand(self):
        self.assertIs(is_calm(SINGLE, (0,)), True)
        self.assertIs(is_calm(SINGLE, (3,)), True)
        self.assertIs(is_calm(SINGLE, (4,)), False)
        self.assertIs(is_calm(RING, (0, 0)), True)
        self.assertIs(is_calm(RING, (1, 0)), True)
        self.assertIs(is_calm(RING, (0, 1)), True)
        self.assertIs(is_calm(RING, (1, 1)), False)
        self.assertIs(is_calm(RING, (2, 0)), False)
        # Both at once need one grain for the ditch alone.
        self.assertIs(is_calm(LINE, (1, 0)), False)
        self.assertIs(is_calm(LINE, (0, 2)), True)
        self.assertIs(is_calm(LINE, (0, 3)), False)

    def test_none_at_all_are_calm(self):
        for yard in many_yards(201):
            self.assertIs(is_calm(yard, (0,) * yard[0]), True)

    def test_grains_that_do_not_rest_are_not_calm(self):
        for yard in many_yards(202):
            limits = told_sizes(yard)
            self.assertIs(is_calm(yard, limits), False)
            self.assertIs(is_calm(yard, (HUGE,) * yard[0]), False)
            for k in range(yard[0]):
                self.assertIs(is_calm(yard, (0,) * k + (limits[k],) + (0,) * (yard[0] - k - 1)), False)

    def test_against_all_choices_of_places(self):
        for yard in SMALL_YARDS:
            for grains in all_rests(yard):
                self.assertIs(is_calm(yard, grains), told_is_calm(yard, grains))
        rng = random.Random(203)
        for yard in many_yards(204):
            limits = told_sizes(yard)
            for _ in range(20):
                grains = tuple(rng.randint(0, size) for size in limits)
                self.assertIs(is_calm(yard, grains), told_is_calm(yard, grains))
                grains = tuple(rng.randint(0, max(1, size // 3)) for size in limits)
                self.assertIs(is_calm(yard, grains), told_is_calm(yard, grains))

    def test_some_that_all_must_tumble_at_once(self):
        # In a full yard with one grain on each place, only all of them together can tumble.
        for count in range(1, 6):
            yard = full_yard(count, 1)
            self.assertIs(is_calm(yard, (1,) * count), False)
            for k in range(count):
                self.assertIs(is_calm(yard, (1,) * k + (0,) + (1,) * (count - k - 1)), True)

    def test_just_if_what_is_lacking_lasts(self):
        for yard in SMALL_YARDS:
            for grains in all_rests(yard):
                self.assertIs(is_calm(yard, grains), told_lasts(yard, lacking(yard, grains)))
        rng = random.Random(205)
        for yard in many_yards(206):
            for _ in range(20):
                grains = tuple(rng.randrange(size) for size in told_sizes(yard))
                self.assertIs(is_calm(yard, grains), is_lasting(yard, lacking(yard, grains)))

    def test_as_many_as_trees(self):
        for yard in SMALL_YARDS:
            told = [grains for grains in all_rests(yard) if is_calm(yard, grains)]
            self.assertEqual(len(told), tree_count(yard))


class Calm(Whole):
    def test_by_hand(self):
        self.assertTold([calm(SINGLE, (heap,)) for heap in (0, 3, 4, 9)], [(0,), (3,), (0,), (1,)])
        self.assertTold(calm(RING, (1, 1)), (0, 0))
        self.assertTold(calm(RING, (2, 0)), (0, 1))
        self.assertTold(calm(RING, (0, 1)), (0, 1))
        self.assertTold(calm(LINE, (3, 0)), (0, 0))
        self.assertTold(calm(LINE, (3, 2)), (0, 2))
        self.assertTold(calm(PATH, (7, 0, 3, 2, 9)), (0, 0, 0, 0, 0))

    def test_of_what_is_a_calm_rest_itself(self):
        for yard in SMALL_YARDS:
            for grains in calm_rests(yard):
                self.assertTold(calm(yard, grains), grains)

    def test_the_one_calm_rest_that_is_alike(self):
        rng = random.Random(211)
        for yard in SMALL_YARDS[:12]:
            ones = calm_rests(yard)
            for most in (0, 2, 6, 30, 99):
                grains = drawn_grains(rng, yard, most)
                self.assertTold([calm(yard, grains)], [one for one in ones if told_alike(yard, one, grains)])

    def test_drawn_yards_with_few_and_with_dozens_and_very_many(self):
        rng = random.Random(212)
        for yard in many_yards(213):
            for most in (2, 12, 99, 10 ** 30):
                grains = drawn_grains(rng, yard, most)
                told = calm(yard, grains)
                self.assertTrue(told_rests(yard, told))
                self.assertGreaterEqual(min(told), 0)
                self.assertTrue(told_is_calm(yard, told))
                self.assertTrue(told_alike(yard, told, grains))
                self.assertTold(calm(yard, told), told)

    def test_dozens_on_each_place_end(self):
        for yard in YARDS:
            for heap in (24, 60, 99):
                told = calm(yard, (heap,) * yard[0])
                self.assertTrue(told_rests(yard, told) and told_is_calm(yard, told))
                self.assertTrue(told_alike(yard, told, (heap,) * yard[0]))

    def test_the_same_for_all_that_are_alike(self):
        rng = random.Random(214)
        for yard in many_yards(215):
            one = drawn_grains(rng, yard, 20)
            made = told_forced(yard, one, tuple(rng.randint(-3, 3) for _ in range(yard[0])))
            lift = (max(0, -min(made)),) * yard[0]
            self.assertTold(calm(yard, added(made, lift)), calm(yard, added(one, lift)))
            other = drawn_grains(rng, yard, 20)
            self.assertEqual(calm(yard, one) == calm(yard, other), alike(yard, one, other))

    def test_somewhat_beyond_the_bounds_nothing_is_refused(self):
        rng = random.Random(216)
        for yard in SMALL_YARDS:
            owed = tuple(rng.randint(-30, 30) for _ in range(yard[0]))
            self.assertIs(is_calm(yard, owed), told_is_calm(yard, owed))
            told = calm(yard, owed)
            self.assertTrue(told_rests(yard, told) and told_is_calm(yard, told) and min(told) >= 0)
            self.assertTrue(told_alike(yard, told, owed))


class NothingChanges(unittest.TestCase):
    def answers(self):
        rng = random.Random(221)
        told = []
        for yard, most in itertools.product(many_yards(222), (2, 9, 40)):
            grains = drawn_grains(rng, yard, most)
            handed = repr((yard, grains))
            told.append((is_calm(yard, grains), calm(yard, grains)))
            self.assertEqual(repr((yard, grains)), handed)
        return told

    def test_asked_again_the_same_is_told(self):
        self.assertEqual(repr(self.answers()), repr(self.answers()))


if __name__ == "__main__":
    unittest.main()
