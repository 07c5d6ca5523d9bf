import itertools
import random
import unittest

from samples import HUGE, SMALL_YARDS, YARDS, added, all_rests, drawn_grains, drawn_yards, full_yard
from samples import told_alike, told_forced, told_lasting, told_lasts, told_settled, told_sizes, told_times, tree_count
from sandyard.dials import alike, back, home, lasting, order_of, zero
from sandyard.errors import NoRest, NoText, NotLasting, NoTumble, NoYard, SandError
from sandyard.trees import count_of
from sandyard.tumbling import put

LINE = (2, ((0, 1, 1), (1, 2, 3)))
RING = (2, ((0, 1, 1), (0, 2, 1), (1, 2, 1)))
SINGLE = (1, ((0, 1, 4),))
PATH = (5, ((0, 5, 1), (1, 2, 1), (2, 3, 1), (3, 4, 1), (4, 5, 1)))


def fullest(yard):
    return tuple(size - 1 for size in told_sizes(yard))


def told_put(yard, one, other):
    return told_settled(yard, added(one, other), max)[0]


def come_to(yard):
    """All that comes of the fullest rest by putting on a grain and settling, again and again."""
    found = {fullest(yard)}
    fresh = [fullest(yard)]
    grains = [tuple(int(k == place) for k in range(yard[0])) for place in range(yard[0])]
    while fresh:
        rest = fresh.pop()
        for grain in grains:
            come = told_put(yard, rest, grain)
            if come not in found:
                found.add(come)
                fresh.append(come)
    return found


def many_yards(seed):
    return list(YARDS) + drawn_yards(random.Random(seed), 6)


def lasting_ones(rng, yard, many):
    """Some lasting rests, drawn: much is put on, and settles."""
    return [told_put(yard, fullest(yard), drawn_grains(rng, yard, 9)) for _ in range(many)]


class Whole(unittest.TestCase):
    def assertTold(self, answer, told):
        # By their writing: True == 1 and would pass as a whole number else.
        self.assertEqual(repr(answer), repr(told))


class Lasting(Whole):
    def test_by_hand(self):
        self.assertTold(lasting((1, ((0, 1, 1),))), ((0,),))
        self.assertTold(lasting(SINGLE), ((0,), (1,), (2,), (3,)))
        self.assertTold(lasting(RING), ((0, 1), (1, 0), (1, 1)))
        self.assertTold(lasting(LINE), ((3, 0), (3, 1), (3, 2)))
        self.assertTold(lasting(PATH), ((0, 1, 1, 1, 1),))

    def test_all_that_burn_up_and_no_others(self):
        for yard in SMALL_YARDS + (full_yard(5, 1), full_yard(3, 4)):
            self.assertTold(lasting(yard), told_lasting(yard))

    def test_drawn_yards(self):
        rng = random.Random(101)
        for yard in drawn_yards(rng, 12):
            told = lasting(yard)
            self.assertTold(told, tuple(sorted(set(told))))
            self.assertEqual(len(told), tree_count(yard))
            self.assertEqual(len(told), count_of(yard))
            for grains in rng.sample(told, min(len(told), 20)):
                self.assertTrue(told_lasts(yard, grains))

    def test_just_those_that_are_come_to_again_and_again(self):
        for yard in SMALL_YARDS + (full_yard(5, 1),):
            self.assertEqual(lasting(yard), tuple(sorted(come_to(yard))))

    def test_as_many_as_trees(self):
        for yard in YARDS[:12] + (full_yard(4, 3), full_yard(5, 2)):
            told = lasting(yard)
            self.assertEqual(len(told), tree_count(yard))
            self.assertEqual(len(told), count_of(yard))
            self.assertTrue(all(earlier < later for earlier, later in zip(told, told[1:])))

    def test_somewhat_beyond_the_bounds_nothing_is_refused(self):
        six = (6, ((0, 6, 5), (1, 6, 1), (2, 6, 1), (3, 4, 2), (3, 6, 1), (4, 6, 1), (5, 6, 1)))
        self.assertTold(lasting(six), told_lasting(six))


class Zero(Whole):
    def test_by_hand(self):
        self.assertTold(zero(SINGLE), (0,))
        self.assertTold(zero(RING), (1, 1))
        self.assertTold(zero(LINE), (3, 0))
        self.assertTold(zero(PATH), (0, 1, 1, 1, 1))

    def test_it_lasts_and_changes_none(self):
        for yard in SMALL_YARDS:
            none = zero(yard)
            self.assertTrue(told_lasts(yard, none))
            for grains in told_lasting(yard):
                self.assertTold(put(yard, grains, none), grains)
                self.assertTold(told_put(yard, none, grains), grains)

    def test_no_other_changes_none(self):
        for yard in SMALL_YARDS:
            told = [none for none in told_lasting(yard) if told_put(yard, fullest(yard), none) == fullest(yard)]
            self.assertTold([zero(yard)], told)

    def test_drawn_yards(self):
        rng = random.Random(102)
        for yard in many_yards(103):
            none = zero(yard)
            self.assertTrue(told_lasts(yard, none))
            self.assertTrue(told_alike(yard, none, (0,) * yard[0]))
            for grains in lasting_ones(rng, yard, 5):
                self.assertTold(told_put(yard, grains, none), grains)


class Back(Whole):
    def test_by_hand(self):
        self.assertTold([back(SINGLE, (heap,)) for heap in range(4)], [(0,), (3,), (2,), (1,)])
        self.assertTold(back(RING, (1, 1)), (1, 1))
        self.assertTold(back(RING, (0, 1)), (1, 0))
        self.assertTold(back(RING, (1, 0)), (0, 1))
        self.assertTold(back(LINE, (3, 1)), (3, 2))

    def test_it_lasts_and_together_they_make_zero(self):
        for yard in SMALL_YARDS:
            for grains in told_lasting(yard):
                undone = back(yard, grains)
                self.assertTrue(told_lasts(yard, undone))
                self.assertTold(told_put(yard, grains, undone), zero(yard))
                self.assertTold(put(yard, undone, grains), zero(yard))
                self.assertTold(back(yard, undone), grains)

    def test_drawn_yards(self):
        rng = random.Random(104)
        for yard in many_yards(105):
            self.assertTold(back(yard, zero(yard)), zero(yard))
            for grains in lasting_ones(rng, yard, 5):
                undone = back(yard, grains)
                self.assertTrue(told_lasts(yard, undone))
                self.assertTold(told_put(yard, grains, undone), zero(yard))


class OrderOf(Whole):
    def told_order(self, yard, grains):
        """[3.2] by its words: put together again and again, till it makes zero."""
        together = grains
        often = 1
        while together != zero(yard):
            together = put(yard, together, grains)
            often += 1
        return often

    def test_by_hand(self):
        self.assertTold([order_of(SINGLE, (heap,)) for heap in range(4)], [1, 4, 2, 4])
        self.assertTold([order_of(RING, grains) for grains in ((1, 1), (0, 1), (1, 0))], [1, 3, 3])
        self.assertTold(order_of(PATH, (0, 1, 1, 1, 1)), 1)

    def test_once_for_zero_alone(self):
        for yard in SMALL_YARDS:
            for grains in told_lasting(yard):
                self.assertEqual(order_of(yard, grains) == 1, grains == zero(yard))
        for yard in many_yards(106):
            self.assertTold(order_of(yard, zero(yard)), 1)

    def test_the_least_times_that_make_zero(self):
        for yard in SMALL_YARDS:
            for grains in told_lasting(yard)[::3]:
                self.assertTold(order_of(yard, grains), self.told_order(yard, grains))

    def test_it_divides_how_many_there_are(self):
        rng = random.Random(107)
        for yard in many_yards(108):
            for grains in lasting_ones(rng, yard, 4):
                often = order_of(yard, grains)
                self.assertGreaterEqual(often, 1)
                self.assertEqual(tree_count(yard) % often, 0)
                whole = tuple(heap * often for heap in grains)
                self.assertTrue(told_alike(yard, whole, zero(yard)))
                for fewer in [often // prime for prime in range(2, often + 1) if often % prime == 0][:40]:
                    some = tuple(heap * fewer for heap in grains)
                    self.assertFalse(told_alike(yard, some, zero(yard)))


class NotLastingRefused(Whole):
    def wrong_ones(self, yard):
        limits = told_sizes(yard)
        yield limits
        yield (1000,) * yard[0]
        for k in range(yard[0]):
            yield fullest(yard)[:k] + limits[k:]
            yield fullest(yard)[:k] + (limits[k],) + fullest(yard)[k + 1:]
            yield (0,) * k + (limits[k],) + (0,) * (yard[0] - k - 1)

    def test_grains_that_do_not_rest(self):
        for yard in many_yards(109):
            for grains in self.wrong_ones(yard):
                self.assertRaises(NotLasting, back, yard, grains)
                self.assertRaises(NotLasting, order_of, yard, grains)

    def test_rests_that_do_not_burn_up(self):
        for yard in SMALL_YARDS:
            right = set(told_lasting(yard))
            for grains in all_rests(yard):
                if grains not in right:
                    self.assertRaises(NotLasting, back, yard, grains)
                    self.assertRaises(NotLasting, order_of, yard, grains)

    def test_what_is_alike_to_a_lasting_one_is_refused_too(self):
        self.assertRaises(NotLasting, back, RING, (0, 0))
        self.assertRaises(NotLasting, order_of, RING, (0, 0))
        self.assertRaises(NotLasting, back, SINGLE, (4,))
        self.assertRaises(NotLasting, order_of, SINGLE, (4,))

    def test_the_refusal_can_be_taken_more_widely(self):
        for asked in (back, order_of):
            for grains in ((0, 0), (2, 2), (4, 0), (3, 3), (9, 9)):
                self.assertRaises(SandError, asked, LINE, grains)
                self.assertRaises(ValueError, asked, LINE, grains)
                with self.assertRaises(NotLasting) as taken:
                    asked(LINE, grains)
                self.assertNotIsInstance(taken.exception, (NoYard, NoText, NoTumble, NoRest))


class Dial(Whole):
    def test_put_together_they_last(self):
        for yard in SMALL_YARDS[:12]:
            ones = told_lasting(yard)
            for one, other in itertools.product(ones[:30], ones[-30:]):
                self.assertIn(put(yard, one, other), ones)

    def test_the_same_put_on_unlike_ones_makes_unlike_ones(self):
        rng = random.Random(110)
        for yard in SMALL_YARDS:
            ones = lasting(yard)
            for grains in (rng.choice(ones), drawn_grains(rng, yard, 20)):
                moved = [put(yard, one, grains) for one in ones]
                self.assertEqual(tuple(sorted(moved)), ones)


class Home(Whole):
    def test_by_hand(self):
        self.assertTold([home(SINGLE, (heap,)) for heap in (0, 3, 4, 9, 43)], [(0,), (3,), (0,), (1,), (3,)])
        self.assertTold(home(RING, (0, 0)), (1, 1))
        self.assertTold(home(RING, (2, 1)), (1, 0))
        self.assertTold(home(RING, (2, 2)), (1, 1))
        self.assertTold(home(RING, (2, 0)), (0, 1))
        self.assertTold(home(LINE, (0, 0)), (3, 0))
        self.assertTold(home(PATH, (7, 0, 3, 2, 9)), (0, 1, 1, 1, 1))

    def test_of_a_lasting_one_itself(self):
        for yard in SMALL_YARDS:
            for grains in told_lasting(yard):
                self.assertTold(home(yard, grains), grains)

    def test_the_one_that_is_alike(self):
        rng = random.Random(111)
        for yard in SMALL_YARDS[:12]:
            ones = told_lasting(yard)
            for most in (0, 2, 6, 30, 99):
                grains = drawn_grains(rng, yard, most)
                self.assertTold([home(yard, grains)], [one for one in ones if told_alike(yard, one, grains)])

    def test_drawn_yards_also_many_more_than_rest(self):
        rng = random.Random(112)
        for yard in many_yards(113):
            for most in (1, 5, 80, 10 ** 30):
                grains = drawn_grains(rng, yard, most)
                told = home(yard, grains)
                self.assertTrue(told_lasts(yard, told))
                self.assertTrue(told_alike(yard, told, grains))

    def test_of_two_together_that_of_both_homes_put_together(self):
        rng = random.Random(114)
        for yard in many_yards(115):
            one = drawn_grains(rng, yard, 4)
            other = drawn_grains(rng, yard, 40)
            told = home(yard, added(one, other))
            self.assertTold(put(yard, home(yard, one), home(yard, other)), told)
            self.assertTold(put(yard, home(yard, one), other), told)
            self.assertTold(home(yard, put(yard, one, other)), told)

    def test_somewhat_beyond_the_bounds_nothing_is_refused(self):
        rng = random.Random(116)
        for yard in SMALL_YARDS:
            grains = tuple(rng.randint(-30, 30) for _ in range(yard[0]))
            for owed in (grains, (-1,) * yard[0], (-77,) + grains[1:]):
                self.assertTrue(told_lasts(yard, home(yard, owed)))
                self.assertTrue(told_alike(yard, home(yard, owed), owed))


class Alike(Whole):
    def test_by_hand(self):
        self.assertIs(alike(SINGLE, (1,), (5,)), True)
        self.assertIs(alike(SINGLE, (5,), (1,)), True)
        self.assertIs(alike(SINGLE, (1,), (3,)), False)
        self.assertIs(alike(SINGLE, (0,), (0,)), True)
        self.assertIs(alike(RING, (2, 0), (0, 1)), True)
        self.assertIs(alike(RING, (1, 1), (0, 0)), True)
        self.assertIs(alike(RING, (1, 0), (0, 1)), False)
        self.assertIs(alike(RING, (1, 0), (0, 0)), False)
        self.assertIs(alike(PATH, (0, 0, 0, 0, 0), (1, 2, 3, 4, 5)), True)
        self.assertIs(alike(SINGLE, (HUGE,), (3 * HUGE,)), True)
        self.assertIs(alike(SINGLE, (HUGE,), (HUGE + 2,)), False)

    def test_every_two_that_are_small(self):
        for yard in SMALL_YARDS[:6]:
            every = list(itertools.product(range(5 if yard[0] < 3 else 3), repeat=yard[0]))
            for one, other in itertools.product(every, every):
                self.assertIs(alike(yard, one, other), told_alike(yard, one, other))

    def test_just_what_is_come_to_by_small_times(self):
        # By tumbles alone: of a ring the times that lead between heaps so small are small themselves.
        every = set(itertools.product(range(4), repeat=2))
        for one in every:
            times = itertools.product(range(-6, 7), repeat=2)
            come = {told_forced(RING, one, each) for each in times} & every
            self.assertEqual({other for other in every if alike(RING, one, other)}, come)

    def test_what_is_made_by_forced_tumbles(self):
        rng = random.Random(121)
        for yard in many_yards(122):
            for most in (1, 5, 10 ** 30):
                one = drawn_grains(rng, yard, 20)
                times = tuple(rng.randint(-most, most) for _ in range(yard[0]))
                made = told_forced(yard, one, times)
                lift = (max(0, -min(made)),) * yard[0]
                one, made = added(one, lift), added(made, lift)
                self.assertIs(alike(yard, one, made), True)
                self.assertIs(alike(yard, made, one), True)
                self.assertEqual(told_times(yard, one, made), times)

    def test_what_is_lifted_by_whole_tumbles(self):
        rng = random.Random(123)
        for yard in many_yards(124):
            one = drawn_grains(rng, yard, 20)
            made = told_forced(yard, one, tuple(rng.randint(-3, 3) for _ in range(yard[0])))
            # A place in debt takes tumbles back, till none is in debt; the fullest rest's tumbles end that too.
            often = max(0, -min(made)) + 1
            twice = tuple(2 * size for size in told_sizes(yard))
            times = told_settled(yard, twice, min)[1]
            made = told_forced(yard, made, tuple(-each * often for each in times))
            self.assertGreaterEqual(min(made), 0)
            self.assertIs(alike(yard, one, made), True)
            self.assertIs(alike(yard, one, told_settled(yard, one, min)[0]), True)

    def test_times_that_are_no_whole_numbers(self):
        rng = random.Random(125)
        unlike = 0
        for yard in many_yards(126):
            for _ in range(6):
                one = drawn_grains(rng, yard, 20)
                other = drawn_grains(rng, yard, 20)
                self.assertIs(alike(yard, one, other), told_alike(yard, one, other))
                unlike += not told_alike(yard, one, other)
        self.assertGreater(unlike, 50)

    def test_one_place_alone_with_times_that_are_not_whole(self):
        # Place 1 would tumble a whole number of times, place 2 would not, and the other way round.
        yard = (2, ((0, 1, 1), (0, 2, 3)))
        self.assertIs(alike(yard, (0, 0), (5, 1)), False)
        self.assertIs(alike(yard, (0, 0), (5, 3)), True)
        yard = (2, ((0, 1, 3), (0, 2, 1)))
        self.assertIs(alike(yard, (0, 0), (1, 5)), False)
        self.assertIs(alike(yard, (0, 0), (3, 5)), True)

    def test_lasting_ones_are_alike_to_themselves_alone(self):
        rng = random.Random(127)
        for yard in SMALL_YARDS:
            ones = lasting(yard)
            ones = rng.sample(ones, min(len(ones), 15))
            for one, other in itertools.product(ones, ones):
                self.assertIs(alike(yard, one, other), one == other)

    def test_just_where_homes_are_the_same(self):
        rng = random.Random(128)
        for yard in many_yards(129):
            one = drawn_grains(rng, yard, 20)
            for other in (drawn_grains(rng, yard, 20), home(yard, one), zero(yard)):
                self.assertIs(alike(yard, one, other), home(yard, one) == home(yard, other))


class NothingChanges(unittest.TestCase):
    def answers(self):
        rng = random.Random(131)
        told = []
        for yard in list(SMALL_YARDS) + drawn_yards(rng, 3):
            one = drawn_grains(rng, yard, 30)
            grains = home(yard, drawn_grains(rng, yard, 5))
            handed = repr((yard, one, grains))
            told.append((lasting(yard), zero(yard), back(yard, grains), order_of(yard, grains), home(yard, one)))
            told.append(alike(yard, one, grains))
            self.assertEqual(repr((yard, one, grains)), handed)
        return told

    def test_asked_again_the_same_is_told(self):
        self.assertEqual(repr(self.answers()), repr(self.answers()))


if __name__ == "__main__":
    unittest.main()
