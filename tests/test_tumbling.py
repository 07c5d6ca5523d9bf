import itertools
import random
import unittest

from samples import HUGE, ODD_THINGS, YARDS, added, all_rests, drawn_grains, drawn_yards
from samples import told_forced, told_rests, told_settled, told_sizes, told_tumble
from sandyard.errors import NoRest, NoText, NotLasting, NoTumble, NoYard, SandError
from sandyard.tumbling import forced, put, rests, settled, tumbled

LINE = (2, ((0, 1, 1), (1, 2, 3)))
FEW = ((1, ((0, 1, 2),)), (2, ((0, 1, 1), (0, 2, 1), (1, 2, 1))), (2, ((0, 2, 1), (1, 2, 2))))


def many_yards(seed):
    return list(YARDS) + drawn_yards(random.Random(seed), 8)


class Whole(unittest.TestCase):
    """Answers are equal to what is told, part by part of the kind that is told."""

    def assertTold(self, answer, told):
        # By their writing: True == 1 and would pass as a whole number else.
        self.assertEqual(repr(answer), repr(told))


class Tumbled(Whole):
    def test_by_hand(self):
        self.assertTold(tumbled(LINE, (4, 0), 1), (0, 3))
        self.assertTold(tumbled(LINE, (6, 2), 1), (2, 5))
        self.assertTold(tumbled(LINE, (0, 3), 2), (3, 0))
        self.assertTold(tumbled(LINE, (9, 5), 2), (12, 2))
        self.assertTold(tumbled((1, ((0, 1, 4),)), (4,), 1), (0,))
        self.assertTold(tumbled((1, ((0, 1, 4),)), (11,), 1), (7,))
        yard = (3, ((0, 3, 1), (1, 2, 2), (2, 3, 3)))
        self.assertTold(tumbled(yard, (1, 5, 0), 2), (3, 0, 3))
        self.assertTold(tumbled(yard, (2, 0, 7), 1), (0, 2, 7))
        self.assertTold(tumbled(yard, (2, 0, 4), 3), (2, 3, 0))

    def test_a_grain_goes_over_each_tie(self):
        rng = random.Random(21)
        for yard in many_yards(22):
            for _ in range(5):
                grains = drawn_grains(rng, yard, 20)
                for place, (heap, size) in enumerate(zip(grains, told_sizes(yard)), start=1):
                    if heap >= size:
                        self.assertTold(tumbled(yard, grains, place), told_tumble(yard, grains, place))
                    else:
                        self.assertRaises(NoTumble, tumbled, yard, grains, place)

    def test_just_enough_and_one_too_few(self):
        for yard in many_yards(23):
            limits = told_sizes(yard)
            below = tuple(size - 1 for size in limits)
            for place in range(1, yard[0] + 1):
                self.assertTold(tumbled(yard, limits, place), told_tumble(yard, limits, place))
                self.assertRaises(NoTumble, tumbled, yard, below, place)
                self.assertRaises(NoTumble, tumbled, yard, (0,) * yard[0], place)

    def test_other_heaps_do_not_matter(self):
        self.assertRaises(NoTumble, tumbled, LINE, (3, 1000), 1)
        self.assertRaises(NoTumble, tumbled, LINE, (1000, 2), 2)

    def test_what_is_no_place(self):
        for yard in YARDS:
            grains = (100,) * yard[0]
            wrong = (0, -1, -2, -yard[0], yard[0] + 1, yard[0] + 2, 100, HUGE, -HUGE, "a", (1,), ("1",), (1, 2))
            for place in wrong + ODD_THINGS:
                self.assertRaises(NoTumble, tumbled, yard, grains, place)

    def test_the_refusal_can_be_taken_more_widely(self):
        for grains, place in (((3, 0), 1), ((9, 9), 0), ((9, 9), 3), ((9, 9), True), ((9, 9), None)):
            self.assertRaises(SandError, tumbled, LINE, grains, place)
            self.assertRaises(ValueError, tumbled, LINE, grains, place)
            with self.assertRaises(NoTumble) as taken:
                tumbled(LINE, grains, place)
            self.assertNotIsInstance(taken.exception, (NoYard, NoText, NoRest, NotLasting))


class Rests(Whole):
    def test_by_hand(self):
        self.assertIs(rests(LINE, (0, 0)), True)
        self.assertIs(rests(LINE, (3, 2)), True)
        self.assertIs(rests(LINE, (4, 2)), False)
        self.assertIs(rests(LINE, (3, 3)), False)
        self.assertIs(rests(LINE, (4, 3)), False)
        self.assertIs(rests(LINE, (0, HUGE)), False)

    def test_each_place_below_its_size(self):
        for yard in many_yards(31):
            limits = told_sizes(yard)
            below = tuple(size - 1 for size in limits)
            self.assertIs(rests(yard, (0,) * yard[0]), True)
            self.assertIs(rests(yard, below), True)
            self.assertIs(rests(yard, limits), False)
            for k in range(yard[0]):
                for more in (1, 2, 50):
                    self.assertIs(rests(yard, below[:k] + (below[k] + more,) + below[k + 1:]), False)
                    self.assertIs(rests(yard, (0,) * k + (below[k] + more,) + (0,) * (yard[0] - k - 1)), False)

    def test_all_grains_up_to_some(self):
        for yard in FEW + (LINE,):
            for grains in itertools.product(range(8), repeat=yard[0]):
                self.assertIs(rests(yard, grains), told_rests(yard, grains))


class Settled(Whole):
    def test_by_hand(self):
        self.assertTold(settled((1, ((0, 1, 1),)), (7,)), ((0,), (7,)))
        self.assertTold(settled((1, ((0, 1, 4),)), (11,)), ((3,), (2,)))
        self.assertTold(settled(LINE, (4, 0)), ((3, 0), (1, 1)))
        self.assertTold(settled((2, ((0, 1, 1), (0, 2, 1), (1, 2, 1))), (2, 2)), ((1, 1), (1, 1)))
        self.assertTold(settled((2, ((0, 1, 1), (0, 2, 1), (1, 2, 1))), (3, 1)), ((0, 1), (2, 1)))

    def test_what_rests_stays(self):
        for yard in FEW + (LINE,):
            for grains in all_rests(yard):
                self.assertTold(settled(yard, grains), (grains, (0,) * yard[0]))
        for yard in many_yards(41):
            below = tuple(size - 1 for size in told_sizes(yard))
            for grains in (below, (0,) * yard[0]):
                self.assertTold(settled(yard, grains), (grains, (0,) * yard[0]))

    def test_the_same_in_whatever_order(self):
        rng = random.Random(42)
        for yard in many_yards(43):
            grains = drawn_grains(rng, yard, 15)
            told = settled(yard, grains)
            for choose in (min, max, rng.choice, rng.choice, rng.choice):
                self.assertTold(told, told_settled(yard, grains, choose))

    def test_dozens_on_each_place_end(self):
        rng = random.Random(44)
        for yard in YARDS:
            for grains in ((60,) * yard[0], drawn_grains(rng, yard, 99)):
                self.assertTold(settled(yard, grains), told_settled(yard, grains, rng.choice))

    def test_by_the_programs_own_tumbles(self):
        rng = random.Random(45)
        for yard in many_yards(46):
            grains = drawn_grains(rng, yard, 12)
            told, times = settled(yard, grains)
            left = list(times)
            while not rests(yard, grains):
                ready = [k for k in range(yard[0]) if grains[k] >= told_sizes(yard)[k]]
                k = rng.choice(ready)
                grains = tumbled(yard, grains, k + 1)
                left[k] -= 1
            self.assertTold(grains, told)
            self.assertEqual(left, [0] * yard[0])

    def test_very_great_heaps_end(self):
        rng = random.Random(47)
        for yard in YARDS:
            for grains in ((10 ** 30,) * yard[0], drawn_grains(rng, yard, 10 ** 40)):
                told, times = settled(yard, grains)
                self.assertTrue(told_rests(yard, told))
                self.assertGreaterEqual(min(told), 0)
                self.assertTold(told, told_forced(yard, grains, times))

    def test_rest_and_times_belong_together(self):
        rng = random.Random(48)
        for yard in many_yards(49):
            for _ in range(5):
                grains = drawn_grains(rng, yard, 40)
                told, times = settled(yard, grains)
                self.assertTrue(told_rests(yard, told))
                self.assertGreaterEqual(min(told + times), 0)
                self.assertTold(told, told_forced(yard, grains, times))
                self.assertTold(told, forced(yard, grains, times))

    def test_no_times_at_all_bring_rest_with_fewer(self):
        for yard in FEW + (LINE,):
            for grains in itertools.product(range(0, 9, 2), repeat=yard[0]):
                times = settled(yard, grains)[1]
                for other in itertools.product(range(max(times) + 3), repeat=yard[0]):
                    if told_rests(yard, told_forced(yard, grains, other)):
                        self.assertTrue(all(often <= more for often, more in zip(times, other)))

    def test_no_drawn_times_bring_rest_with_fewer_of_one_place(self):
        rng = random.Random(50)
        for yard in many_yards(51):
            grains = drawn_grains(rng, yard, 30)
            times = settled(yard, grains)[1]
            for k in [k for k in range(yard[0]) if times[k] > 0]:
                for _ in range(20):
                    other = [max(0, often + rng.randint(-3, 3)) for often in times]
                    other[k] = rng.randrange(times[k])
                    self.assertFalse(told_rests(yard, told_forced(yard, grains, other)))
                fewer = times[:k] + (times[k] - 1,) + times[k + 1:]
                self.assertFalse(told_rests(yard, told_forced(yard, grains, fewer)))

    def test_somewhat_beyond_the_bounds_nothing_is_refused(self):
        six = (6, ((0, 6, 5), (1, 6, 1), (2, 6, 1), (3, 6, 1), (4, 6, 1), (5, 6, 1)))
        grains = (3, 1, 0, 2, 5, 20)
        self.assertTold(settled(six, grains), told_settled(six, grains, min))
        self.assertTold(tumbled(six, grains, 6), told_tumble(six, grains, 6))
        # In debt: such a place waits, and takes no tumble back.
        self.assertTold(settled(LINE, (-9, 7)), told_settled(LINE, (-9, 7), min))
        self.assertTold(settled(LINE, (-9, 0)), ((-9, 0), (0, 0)))
        self.assertTold(settled(LINE, (9, -7)), told_settled(LINE, (9, -7), min))


class Put(Whole):
    def test_by_hand(self):
        self.assertTold(put((1, ((0, 1, 4),)), (3,), (3,)), (2,))
        self.assertTold(put((1, ((0, 1, 4),)), (1,), (2,)), (3,))
        self.assertTold(put(LINE, (3, 0), (1, 0)), (3, 0))
        self.assertTold(put((2, ((0, 1, 1), (0, 2, 1), (1, 2, 1))), (1, 1), (1, 1)), (1, 1))

    def test_the_rest_of_both_together(self):
        rng = random.Random(61)
        for yard in many_yards(62):
            for most in (3, 15, 40):
                one = drawn_grains(rng, yard, most)
                other = drawn_grains(rng, yard, most)
                told = told_settled(yard, added(one, other), min)[0]
                self.assertTold(put(yard, one, other), told)
                self.assertTold(put(yard, other, one), told)

    def test_settled_ahead_or_not(self):
        rng = random.Random(63)
        for yard in many_yards(64):
            one = drawn_grains(rng, yard, 30)
            other = drawn_grains(rng, yard, 30)
            told = put(yard, one, other)
            self.assertTold(put(yard, settled(yard, one)[0], other), told)
            self.assertTold(put(yard, one, settled(yard, other)[0]), told)
            self.assertTold(put(yard, settled(yard, one)[0], settled(yard, other)[0]), told)
            self.assertTold(put(yard, one, (0,) * yard[0]), settled(yard, one)[0])
            self.assertTold(put(yard, (0,) * yard[0], one), settled(yard, one)[0])

    def test_three_in_any_order(self):
        rng = random.Random(65)
        for yard in many_yards(66):
            three = [drawn_grains(rng, yard, most) for most in (5, 12, 30)]
            told = told_settled(yard, added(added(three[0], three[1]), three[2]), max)[0]
            for one, other, third in itertools.permutations(three):
                self.assertTold(put(yard, put(yard, one, other), third), told)
                self.assertTold(put(yard, one, put(yard, other, third)), told)


class Forced(Whole):
    def test_by_hand(self):
        self.assertTold(forced(LINE, (4, 0), (1, 0)), (0, 3))
        self.assertTold(forced(LINE, (0, 0), (1, 0)), (-4, 3))
        self.assertTold(forced(LINE, (0, 0), (-1, 0)), (4, -3))
        self.assertTold(forced(LINE, (0, 0), (0, 1)), (3, -3))
        self.assertTold(forced(LINE, (0, 0), (1, 1)), (-1, 0))
        self.assertTold(forced(LINE, (1, 2), (-2, 3)), (18, -13))
        self.assertTold(forced((1, ((0, 1, 4),)), (1,), (2,)), (-7,))

    def test_none_and_each_once(self):
        rng = random.Random(71)
        for yard in many_yards(72):
            grains = drawn_grains(rng, yard, 3)
            self.assertTold(forced(yard, grains, (0,) * yard[0]), grains)
            for place in range(1, yard[0] + 1):
                once = tuple(int(place == other) for other in range(1, yard[0] + 1))
                self.assertTold(forced(yard, grains, once), told_tumble(yard, grains, place))

    def test_drawn_times_also_below_nought(self):
        rng = random.Random(73)
        for yard in many_yards(74):
            for most in (2, 10, 10 ** 30):
                grains = drawn_grains(rng, yard, 9)
                times = tuple(rng.randint(-most, most) for _ in range(yard[0]))
                told = forced(yard, grains, times)
                self.assertTold(told, told_forced(yard, grains, times))
                taken_back = tuple(-often for often in times)
                self.assertTold(forced(yard, told, taken_back), grains)

    def test_as_tumbled_where_there_is_enough(self):
        for yard in many_yards(75):
            grains = told_sizes(yard)
            for place in range(1, yard[0] + 1):
                once = tuple(int(place == other) for other in range(1, yard[0] + 1))
                self.assertTold(forced(yard, grains, once), tumbled(yard, grains, place))


class NothingChanges(unittest.TestCase):
    def answers(self):
        rng = random.Random(81)
        told = []
        for yard in many_yards(82):
            grains = drawn_grains(rng, yard, 30)
            times = tuple(rng.randint(-5, 5) for _ in range(yard[0]))
            handed = repr((yard, grains, times))
            full = added(grains, told_sizes(yard))
            told.append(rests(yard, grains))
            told.append(settled(yard, grains))
            told.append(put(yard, grains, full))
            told.append(forced(yard, grains, times))
            told.append([tumbled(yard, full, place) for place in range(1, yard[0] + 1)])
            self.assertEqual(repr((yard, grains, times)), handed)
        return told

    def test_asked_again_the_same_is_told(self):
        self.assertEqual(repr(self.answers()), repr(self.answers()))


if __name__ == "__main__":
    unittest.main()
