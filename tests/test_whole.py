"""What the document promises over the whole program, with all its parts together."""

import importlib
import inspect
import itertools
import random
import unittest

from samples import SMALL_YARDS, YARDS, added, all_rests, drawn_grains, drawn_yards, told_sizes
from sandyard.burning import burn, is_lasting
from sandyard.calming import calm, is_calm
from sandyard.dials import alike, back, home, lasting, order_of, zero
from sandyard.reading import read
from sandyard.things import are_grains, between, is_yard, sizes
from sandyard.trees import count_of, trees
from sandyard.tumbling import forced, put, rests, settled, tumbled
from sandyard.writing import written

INTERFACE = {
    "things": {"is_yard": ["thing"], "are_grains": ["thing", "yard"], "sizes": ["yard"],
               "between": ["yard", "one", "other"]},
    "writing": {"written": ["yard"]},
    "reading": {"read": ["text"]},
    "tumbling": {"rests": ["yard", "grains"], "tumbled": ["yard", "grains", "place"], "settled": ["yard", "grains"],
                 "put": ["yard", "one", "other"], "forced": ["yard", "grains", "times"]},
    "burning": {"burn": ["yard", "grains"], "is_lasting": ["yard", "grains"]},
    "dials": {"lasting": ["yard"], "zero": ["yard"], "back": ["yard", "grains"], "order_of": ["yard", "grains"],
              "home": ["yard", "grains"], "alike": ["yard", "one", "other"]},
    "calming": {"is_calm": ["yard", "grains"], "calm": ["yard", "grains"]},
    "trees": {"trees": ["yard"], "count_of": ["yard"]},
}


def many_yards(seed):
    return list(YARDS) + drawn_yards(random.Random(seed), 8)


def drawn_lasting(rng, yard):
    return home(yard, drawn_grains(rng, yard, 30))


def few_enough(yards, most):
    return [yard for yard in yards if count_of(yard) <= most]


class Interface(unittest.TestCase):
    def test_names_and_arguments(self):
        for file, functions in INTERFACE.items():
            module = importlib.import_module("sandyard." + file)
            for name, arguments in functions.items():
                with self.subTest(file=file, name=name):
                    self.assertEqual(list(inspect.signature(getattr(module, name)).parameters), arguments)


class TumblingEnds(unittest.TestCase):
    """[0.2] (a)"""

    def test_the_same_rest_and_times_in_whatever_order(self):
        rng = random.Random(401)
        for yard in many_yards(402):
            grains = drawn_grains(rng, yard, 20)
            rest, times = settled(yard, grains)
            for _ in range(3):
                heaps = grains
                often = [0] * yard[0]
                while not rests(yard, heaps):
                    ready = [place for place in range(1, yard[0] + 1) if heaps[place - 1] >= sizes(yard)[place - 1]]
                    place = rng.choice(ready)
                    heaps = tumbled(yard, heaps, place)
                    often[place - 1] += 1
                self.assertEqual((heaps, tuple(often)), (rest, times))
            self.assertTrue(rests(yard, rest))
            self.assertTrue(alike(yard, grains, rest))
            self.assertEqual(forced(yard, grains, times), rest)

    def test_nothing_else_brings_rest_with_fewer_of_any(self):
        rng = random.Random(403)
        for yard in many_yards(404):
            grains = drawn_grains(rng, yard, 20)
            times = settled(yard, grains)[1]
            for _ in range(60):
                other = tuple(max(0, often + rng.randint(-4, 4)) for often in times)
                if rests(yard, forced(yard, grains, other)):
                    self.assertTrue(all(often <= more for often, more in zip(times, other)))


class GrainsAdd(unittest.TestCase):
    """[0.2] (b)"""

    def test_in_any_order(self):
        rng = random.Random(405)
        for yard in many_yards(406):
            parts = [drawn_grains(rng, yard, 15) for _ in range(4)]
            together = tuple(sum(heaps) for heaps in zip(*parts))
            told = settled(yard, together)[0]
            for _ in range(4):
                rng.shuffle(parts)
                rest = (0,) * yard[0]
                for part in parts:
                    rest = put(yard, rest, part)
                self.assertEqual(rest, told)
                self.assertEqual(put(yard, put(yard, parts[0], parts[1]), put(yard, parts[2], parts[3])), told)
            self.assertEqual(home(yard, told), home(yard, together))


class LastingRests(unittest.TestCase):
    """[0.1], [0.2] (c)"""

    def test_just_those_that_burn_up(self):
        for yard in SMALL_YARDS:
            self.assertEqual(lasting(yard), tuple(each for each in all_rests(yard) if is_lasting(yard, each)))

    def test_just_those_that_come_again(self):
        # A grain is put on each place, again and again, till a rest comes that came already.
        for yard in few_enough(SMALL_YARDS, 200):
            ones = (1,) * yard[0]
            coming = lasting(yard)
            for start in all_rests(yard):
                seen = [put(yard, start, ones)]
                while seen[-1] not in seen[:-1]:
                    seen.append(put(yard, seen[-1], ones))
                self.assertEqual(start in seen, start in coming)

    def test_they_come_back_whatever_is_put_on(self):
        rng = random.Random(407)
        for yard in many_yards(408):
            for _ in range(4):
                grains = drawn_lasting(rng, yard)
                away = put(yard, grains, drawn_grains(rng, yard, 30))
                self.assertTrue(is_lasting(yard, away))
                more = put(yard, back(yard, away), grains)
                self.assertEqual(put(yard, away, more), grains)

    def test_they_are_a_dial(self):
        rng = random.Random(409)
        for yard in many_yards(410):
            none = zero(yard)
            one, other, third = [drawn_lasting(rng, yard) for _ in range(3)]
            self.assertTrue(is_lasting(yard, put(yard, one, other)))
            self.assertEqual(put(yard, one, other), put(yard, other, one))
            self.assertEqual(put(yard, put(yard, one, other), third), put(yard, one, put(yard, other, third)))
            self.assertEqual(put(yard, one, none), one)
            self.assertEqual(put(yard, one, back(yard, one)), none)
            self.assertEqual(put(yard, one, third) == put(yard, other, third), one == other)
            self.assertEqual(order_of(yard, one), order_of(yard, back(yard, one)))
            self.assertEqual(count_of(yard) % order_of(yard, one), 0)

    def test_times_as_often_as_there_are_make_zero(self):
        rng = random.Random(411)
        for yard in many_yards(412):
            one = drawn_lasting(rng, yard)
            for often in (order_of(yard, one), count_of(yard)):
                self.assertEqual(home(yard, tuple(heap * often for heap in one)), zero(yard))


class AsManyAsTrees(unittest.TestCase):
    """[0.2] (d)"""

    def test_as_many_lasting_and_calm_ones_as_trees(self):
        for yard in SMALL_YARDS:
            many = sum(ways for tree, ways in trees(yard))
            self.assertEqual(len(lasting(yard)), many)
            self.assertEqual(len([grains for grains in all_rests(yard) if is_calm(yard, grains)]), many)
        for yard in few_enough(drawn_yards(random.Random(413), 8), 3000):
            self.assertEqual(len(lasting(yard)), count_of(yard))

    def test_alike_to_just_one_of_each(self):
        rng = random.Random(414)
        for yard in few_enough(SMALL_YARDS, 50):
            grains = drawn_grains(rng, yard, 30)
            comings = [each for each in lasting(yard) if alike(yard, each, grains)]
            self.assertEqual(comings, [home(yard, grains)])
            calms = [each for each in all_rests(yard) if is_calm(yard, each) and alike(yard, grains, each)]
            self.assertEqual(calms, [calm(yard, grains)])

    def test_home_and_calm_tell_the_same_ones_apart(self):
        rng = random.Random(415)
        for yard in many_yards(416):
            one, other = drawn_grains(rng, yard, 20), drawn_grains(rng, yard, 20)
            self.assertEqual(home(yard, calm(yard, one)), home(yard, one))
            self.assertEqual(calm(yard, home(yard, one)), calm(yard, one))
            same = alike(yard, one, other)
            self.assertEqual(home(yard, one) == home(yard, other), same)
            self.assertEqual(calm(yard, one) == calm(yard, other), same)

    def test_sizes_less_one_less_a_calm_rest_last(self):
        rng = random.Random(417)
        for yard in many_yards(418):
            told = calm(yard, drawn_grains(rng, yard, 50))
            self.assertTrue(is_lasting(yard, tuple(size - 1 - heap for size, heap in zip(sizes(yard), told))))


class Kinds(unittest.TestCase):
    """[0.3]"""

    def assertOfTuplesAndNumbers(self, answer):
        if isinstance(answer, tuple):
            for part in answer:
                self.assertOfTuplesAndNumbers(part)
        else:
            self.assertIs(type(answer), int)

    def answers(self, yard, one, other, coming):
        rest = settled(yard, one)[0]
        tuples = [
            sizes(yard), settled(yard, one), put(yard, one, other), forced(yard, one, coming), burn(yard, rest),
            lasting(yard), zero(yard), back(yard, coming), home(yard, one), calm(yard, one), trees(yard),
            tumbled(yard, added(one, told_sizes(yard)), 1), read(written(yard)),
        ]
        numbers = [between(yard, 0, 1), order_of(yard, coming), count_of(yard)]
        truths = [
            is_yard(yard), are_grains(one, yard), rests(yard, one), is_lasting(yard, rest), is_lasting(yard, coming),
            alike(yard, one, other), alike(yard, one, rest), is_calm(yard, one), is_calm(yard, rest),
        ]
        return tuples, numbers, truths

    def handed_in(self):
        rng = random.Random(419)
        for yard in few_enough(many_yards(420), 3000):
            for most in (3, 40):
                grains = [drawn_grains(rng, yard, most) for _ in range(2)]
                yield yard, grains[0], grains[1], drawn_lasting(rng, yard)

    def test_answers_are_of_the_kinds_that_are_told(self):
        for handed in self.handed_in():
            tuples, numbers, truths = self.answers(*handed)
            for answer in tuples:
                self.assertIs(type(answer), tuple)
                self.assertOfTuplesAndNumbers(answer)
            for answer in numbers:
                self.assertIs(type(answer), int)
            for answer in truths:
                self.assertIs(type(answer), bool)

    def test_nothing_handed_in_changes_and_the_same_is_told_again(self):
        for handed in self.handed_in():
            ahead = repr(handed)
            first = repr(self.answers(*handed))
            self.assertEqual(repr(handed), ahead)
            self.assertEqual(repr(self.answers(*handed)), first)

    def test_equal_things_made_anew_are_told_the_same(self):
        def anew(thing):
            return tuple([anew(part) for part in thing]) if isinstance(thing, tuple) else thing

        for handed in itertools.islice(self.handed_in(), 20):
            self.assertEqual(repr(self.answers(*anew(handed))), repr(self.answers(*handed)))


if __name__ == "__main__":
    unittest.main()
