import copy
import itertools
import unittest

from samples import HUGE, ODD_NUMBERS, ODD_THINGS, YARDS, changed, part_at, paths
from sandyard.things import are_grains, between, is_yard, sizes


def all_pairs(count):
    return list(itertools.combinations(range(count + 1), 2))


def told_to_be_yard(count, ties):
    """[0.4] in other words, for whole numbers alone: the ties of a yard cut no places off from the ditch."""
    if count not in (1, 2, 3, 4, 5):
        return False
    pairs = [(one, other) for one, other, many in ties]
    if pairs != sorted(set(pairs)) or not set(pairs) <= set(all_pairs(count)):
        return False
    if not {many for one, other, many in ties} <= {1, 2, 3, 4}:
        return False
    places = range(1, count + 1)
    for length in places:
        for group in itertools.combinations(places, length):
            if not any((one in group) != (other in group) for one, other in pairs):
                return False
    return True


class IsYard(unittest.TestCase):
    def test_yards(self):
        for yard in YARDS:
            with self.subTest(yard=yard):
                self.assertIs(is_yard(yard), True)

    def test_each_number_of_ties_between_two(self):
        for many in range(-1, 8):
            self.assertIs(is_yard((1, ((0, 1, many),))), many in (1, 2, 3, 4))

    def test_as_many_yards_as_joined_drawings(self):
        # How many ways there are to join 2, 3, .. numbered points so that all hang together is well known.
        for count, known in ((1, 1), (2, 4), (3, 38), (4, 728), (5, 26704)):
            pairs = all_pairs(count)
            yards = 0
            for choice in itertools.product((False, True), repeat=len(pairs)):
                ties = tuple((one, other, 1 + one % 4) for (one, other), taken in zip(pairs, choice) if taken)
                yards += is_yard((count, ties))
            self.assertEqual(yards, known)

    def test_wrong_counts(self):
        ties = ((0, 1, 1),)
        for count in (0, 2, 6, -1, HUGE, -HUGE, True, None, "1", (1,), [1]):
            self.assertIs(is_yard((count, ties)), False)
        six = tuple((0, place, 1) for place in range(1, 7))
        self.assertIs(is_yard((5, six[:5])), True)
        self.assertIs(is_yard((6, six)), False)
        self.assertIs(is_yard((0, ())), False)

    def test_no_pair(self):
        for yard in YARDS:
            count, ties = yard
            for thing in ((), (count,), (ties,), (count, ties, ties), (count, ties, None), (ties, count), ties):
                self.assertIs(is_yard(thing), False)

    def test_a_list_where_a_tuple_is_asked(self):
        for yard in YARDS:
            for path in paths(yard):
                part = part_at(yard, path)
                if isinstance(part, tuple):
                    with self.subTest(yard=yard, path=path):
                        self.assertIs(is_yard(changed(yard, path, list(part))), False)

    def test_a_truth_where_a_whole_number_is_asked(self):
        # True == 1 and False == 0, so these things are equal to yards and still are none.
        for yard in YARDS:
            for path in paths(yard):
                part = part_at(yard, path)
                if not isinstance(part, tuple):
                    with self.subTest(yard=yard, path=path):
                        self.assertIs(is_yard(changed(yard, path, bool(part))), False)

    def test_an_odd_thing_at_any_place(self):
        for yard in YARDS:
            for path in paths(yard):
                for odd in ODD_THINGS:
                    self.assertIs(is_yard(changed(yard, path, odd)), False)

    def test_another_number_at_any_place(self):
        for yard in YARDS:
            for path in paths(yard):
                if isinstance(part_at(yard, path), tuple):
                    for number in ODD_NUMBERS:
                        self.assertIs(is_yard(changed(yard, path, number)), False)
                else:
                    for number in ODD_NUMBERS:
                        count, ties = changed(yard, path, number)
                        self.assertIs(is_yard((count, ties)), told_to_be_yard(count, ties))

    def test_not_rising(self):
        self.assertIs(is_yard((2, ((0, 2, 1), (0, 1, 1)))), False)
        self.assertIs(is_yard((2, ((1, 2, 1), (0, 1, 1)))), False)
        self.assertIs(is_yard((3, ((0, 1, 1), (1, 3, 1), (1, 2, 1)))), False)
        for yard in YARDS:
            count, ties = yard
            for order in itertools.islice(itertools.permutations(ties), 1, 200):
                self.assertIs(is_yard((count, order)), False)

    def test_one_not_less_than_other(self):
        for tie in ((1, 0, 1), (1, 1, 1), (2, 1, 1), (0, 0, 1)):
            self.assertIs(is_yard((2, tuple(sorted(((0, 1, 1), (0, 2, 1), tie))))), False)
        self.assertIs(is_yard((1, ((1, 0, 1),))), False)

    def test_two_named_twice(self):
        self.assertIs(is_yard((1, ((0, 1, 1), (0, 1, 1)))), False)
        self.assertIs(is_yard((1, ((0, 1, 1), (0, 1, 2)))), False)
        for yard in YARDS:
            count, ties = yard
            for k in range(len(ties)):
                for many in (1, 2, 3, 4):
                    twice = ties[:k + 1] + (ties[k][:2] + (many,),) + ties[k + 1:]
                    self.assertIs(is_yard((count, twice)), False)

    def test_numbers_that_are_no_place(self):
        self.assertIs(is_yard((1, ((0, 1, 1), (0, 2, 1)))), False)
        self.assertIs(is_yard((1, ((0, 1, 1), (1, 2, 1)))), False)
        self.assertIs(is_yard((1, ((-1, 1, 1), (0, 1, 1)))), False)
        self.assertIs(is_yard((1, ((-1, 0, 1), (0, 1, 1)))), False)
        self.assertIs(is_yard((1, ((0, 1, 1), (0, HUGE, 1)))), False)

    def test_a_triple_with_a_part_too_few_or_too_many(self):
        for yard in YARDS:
            count, ties = yard
            for k, tie in enumerate(ties):
                for wrong in ((), tie[:1], tie[:2], tie[1:], tie + (1,), tie + (None,), tie + tie):
                    self.assertIs(is_yard(changed(yard, (1, k), wrong)), False)

    def test_a_place_that_does_not_lead_to_the_ditch(self):
        for thing in (
            (1, ()),
            (2, ((0, 1, 1),)),
            (2, ((0, 2, 1),)),
            (2, ((1, 2, 1),)),
            (3, ((0, 1, 1), (2, 3, 1))),
            (3, ((0, 3, 1), (1, 2, 4))),
            (5, ((1, 2, 1), (2, 3, 1), (3, 4, 1), (4, 5, 1))),
            (5, ((0, 1, 1), (1, 2, 1), (3, 4, 1), (3, 5, 1), (4, 5, 1))),
        ):
            with self.subTest(thing=thing):
                self.assertIs(is_yard(thing), False)

    def test_ways_to_the_ditch_over_others_in_any_order(self):
        for order in itertools.permutations(range(1, 6)):
            line = (0,) + order
            ties = sorted((min(two), max(two), 1) for two in zip(line, line[1:]))
            self.assertIs(is_yard((5, tuple(ties))), True)
            for k in range(5):
                self.assertIs(is_yard((5, tuple(ties[:k] + ties[k + 1:]))), False)

    def test_any_thing_is_answered(self):
        for thing in ODD_THINGS + ODD_NUMBERS:
            self.assertIs(is_yard(thing), False)
            self.assertIs(is_yard((1, thing)), False)
            self.assertIs(is_yard((1, (thing,))), False)
            self.assertIs(is_yard((1, (thing, thing))), False)
            self.assertIs(is_yard((1, ((0, 1, 1), thing))), False)
            self.assertIs(is_yard((thing, thing)), False)


class AreGrains(unittest.TestCase):
    def test_grains(self):
        for yard in YARDS:
            count = yard[0]
            for number in (0, 1, 2, 7, 2 ** 64, HUGE):
                self.assertIs(are_grains((number,) * count, yard), True)
                self.assertIs(are_grains((number,) + (0,) * (count - 1), yard), True)
                self.assertIs(are_grains((0,) * (count - 1) + (number,), yard), True)
            self.assertIs(are_grains(tuple(range(count)), yard), True)

    def test_too_few_or_too_many(self):
        for yard in YARDS:
            for length in range(9):
                self.assertIs(are_grains((0,) * length, yard), length == yard[0])
                self.assertIs(are_grains((3,) * length, yard), length == yard[0])

    def test_below_nought(self):
        for yard in YARDS:
            grains = (1,) * yard[0]
            for place in range(yard[0]):
                self.assertIs(are_grains(changed(grains, (place,), -1), yard), False)
                self.assertIs(are_grains(changed(grains, (place,), -HUGE), yard), False)
                self.assertIs(are_grains(changed(grains, (place,), 0), yard), True)

    def test_an_odd_thing_among_them(self):
        for yard in YARDS:
            grains = (1,) * yard[0]
            for place in range(yard[0]):
                for odd in ODD_THINGS + ((1,), [1], grains):
                    self.assertIs(are_grains(changed(grains, (place,), odd), yard), False)

    def test_a_list_in_the_place_of_the_tuple(self):
        for yard in YARDS:
            for number in (0, 1, HUGE):
                self.assertIs(are_grains([number] * yard[0], yard), False)

    def test_any_thing_is_answered(self):
        for yard in YARDS:
            for thing in ODD_THINGS + (0, 1, -1, HUGE, -HUGE, "0", "00", "000", yard, ((0,) * yard[0],)):
                self.assertIs(are_grains(thing, yard), False)


class SizesAndBetween(unittest.TestCase):
    def test_sizes_by_hand(self):
        for yard, told in (
            ((1, ((0, 1, 1),)), (1,)),
            ((1, ((0, 1, 4),)), (4,)),
            ((2, ((0, 1, 1), (0, 2, 2))), (1, 2)),
            ((2, ((0, 2, 3), (1, 2, 4))), (4, 7)),
            ((3, ((0, 3, 1), (1, 2, 2), (2, 3, 3))), (2, 5, 4)),
            ((4, ((0, 1, 1), (1, 2, 2), (2, 3, 3), (3, 4, 4))), (3, 5, 7, 4)),
            ((5, ((0, 1, 1), (0, 2, 2), (0, 3, 3), (0, 4, 4), (0, 5, 1))), (1, 2, 3, 4, 1)),
            ((5, ((0, 3, 2), (1, 2, 4), (1, 5, 1), (2, 4, 3), (3, 4, 1), (4, 5, 2))), (5, 7, 3, 6, 3)),
        ):
            with self.subTest(yard=yard):
                self.assertEqual(sizes(yard), told)
                self.assertIsInstance(sizes(yard), tuple)

    def test_size_is_all_that_lies_between_a_place_and_the_rest(self):
        for yard in YARDS:
            count = yard[0]
            told = tuple(
                sum(between(yard, place, other) for other in range(count + 1) if other != place)
                for place in range(1, count + 1)
            )
            self.assertEqual(sizes(yard), told)

    def test_between_in_either_order(self):
        for yard in YARDS:
            count, ties = yard
            told = {}
            for one, other, many in ties:
                told[one, other] = many
                told[other, one] = many
            for one, other in itertools.permutations(range(count + 1), 2):
                with self.subTest(yard=yard, one=one, other=other):
                    self.assertEqual(between(yard, one, other), told.get((one, other), 0))

    def test_between_by_hand(self):
        yard = (3, ((0, 3, 1), (1, 2, 2), (2, 3, 4)))
        self.assertEqual(between(yard, 0, 3), 1)
        self.assertEqual(between(yard, 3, 0), 1)
        self.assertEqual(between(yard, 1, 2), 2)
        self.assertEqual(between(yard, 2, 1), 2)
        self.assertEqual(between(yard, 3, 2), 4)
        self.assertEqual(between(yard, 0, 1), 0)
        self.assertEqual(between(yard, 1, 0), 0)
        self.assertEqual(between(yard, 1, 3), 0)
        self.assertEqual(between(yard, 3, 1), 0)

    def test_kinds(self):
        for yard in YARDS:
            for number in sizes(yard) + (between(yard, 0, 1), between(yard, 1, 0)):
                self.assertIs(type(number), int)

    def test_somewhat_beyond_the_bounds_nothing_is_refused(self):
        yard = (6, ((0, 6, 5), (1, 6, 1), (2, 6, 1), (3, 6, 1), (4, 6, 1), (5, 6, 1)))
        self.assertEqual(sizes(yard), (1, 1, 1, 1, 1, 10))
        self.assertEqual(between(yard, 6, 0), 5)
        self.assertIs(are_grains((0,) * 6, yard), True)
        self.assertIs(are_grains((0,) * 5, yard), False)


class NothingChanges(unittest.TestCase):
    def test_what_is_handed_in_is_not_changed(self):
        things = [list(ODD_THINGS), list(YARDS), [1, [[0, 1, 1]]], (2, [(0, 2, 1), [0, 1, 1]]), (1, ([0, 1, 1],))]
        for thing in things + list(ODD_THINGS):
            kept = copy.deepcopy(thing)
            is_yard(thing)
            are_grains(thing, YARDS[2])
            self.assertEqual(repr(thing), repr(kept))

    def test_asked_again_the_same_is_told(self):
        def answers():
            told = [(is_yard(thing), are_grains(thing, YARDS[0])) for thing in ODD_THINGS]
            for yard in YARDS:
                two = [(one, other) for one in range(yard[0] + 1) for other in range(yard[0] + 1) if one != other]
                told.append((is_yard(yard), sizes(yard), [between(yard, one, other) for one, other in two]))
                told.append([are_grains((0,) * length, yard) for length in range(7)])
            return told

        self.assertEqual(answers(), answers())


if __name__ == "__main__":
    unittest.main()
