import copy
import unittest

from samples import ODD_NUMBERS, ODD_THINGS, YARDS, changed, part_at, paths
from sandyard.errors import NoRest, NoText, NotLasting, NoTumble, NoYard, SandError
from sandyard.things import is_yard
from sandyard.writing import written


class Written(unittest.TestCase):
    def test_by_hand(self):
        for yard, text in (
            ((1, ((0, 1, 1),)), "yard 1 link 0 1 1"),
            ((1, ((0, 1, 4),)), "yard 1 link 0 1 4"),
            ((2, ((0, 1, 1), (0, 2, 2))), "yard 2 link 0 1 1 link 0 2 2"),
            ((2, ((0, 2, 3), (1, 2, 4))), "yard 2 link 0 2 3 link 1 2 4"),
            ((3, ((0, 3, 1), (1, 2, 2), (2, 3, 3))), "yard 3 link 0 3 1 link 1 2 2 link 2 3 3"),
            (
                (5, ((0, 5, 1), (1, 2, 1), (2, 3, 1), (3, 4, 1), (4, 5, 1))),
                "yard 5 link 0 5 1 link 1 2 1 link 2 3 1 link 3 4 1 link 4 5 1",
            ),
        ):
            with self.subTest(yard=yard):
                self.assertEqual(written(yard), text)
                self.assertIs(type(written(yard)), str)

    def test_words_with_one_blank_between(self):
        for yard in YARDS:
            count, ties = yard
            words = ["yard", str(count)]
            for tie in ties:
                words.append("link")
                words.extend(str(number) for number in tie)
            self.assertEqual(written(yard).split(" "), words)

    def test_different_yards_have_different_texts(self):
        self.assertEqual(len({written(yard) for yard in YARDS}), len(YARDS))

    def test_any_other_thing_is_refused(self):
        for thing in ODD_THINGS + ODD_NUMBERS:
            for handed in (thing, (1, thing), (1, (thing,)), (thing, ((0, 1, 1),)), (1, ((0, 1, 1), thing))):
                if not is_yard(handed):
                    self.assertRaises(NoYard, written, handed)

    def test_changed_at_one_place_is_refused(self):
        for yard in YARDS:
            for path in paths(yard):
                for odd in ODD_THINGS:
                    self.assertRaises(NoYard, written, changed(yard, path, odd))
                part = part_at(yard, path)
                other_kind = list(part) if isinstance(part, tuple) else bool(part)
                self.assertRaises(NoYard, written, changed(yard, path, other_kind))

    def test_wrong_yards_are_refused(self):
        for thing in (
            (0, ()),
            (1, ()),
            (6, tuple((0, place, 1) for place in range(1, 7))),
            (1, ((0, 1, 0),)),
            (1, ((0, 1, 5),)),
            (1, ((1, 0, 1),)),
            (2, ((0, 2, 1), (0, 1, 1))),
            (1, ((0, 1, 1), (0, 1, 2))),
            (2, ((0, 1, 1),)),
            (1, ((0, 1, 1), (1, 2, 1))),
            (1, ((0, 1),)),
            (1, ((0, 1, 1, 1),)),
            (1, ((0, 1, 1),), ()),
        ):
            with self.subTest(thing=thing):
                self.assertRaises(NoYard, written, thing)

    def test_the_refusal_can_be_taken_more_widely(self):
        self.assertRaises(SandError, written, None)
        self.assertRaises(ValueError, written, None)
        with self.assertRaises(NoYard) as taken:
            written((1, ()))
        self.assertNotIsInstance(taken.exception, (NoText, NoTumble, NoRest, NotLasting))

    def test_nothing_is_changed_and_the_same_is_told_again(self):
        for yard in YARDS:
            kept = copy.deepcopy(yard)
            self.assertEqual(written(yard), written(yard))
            self.assertEqual(yard, kept)
        for thing in ODD_THINGS + ([1, [[0, 1, 1]]], (2, [(0, 2, 1), [0, 1, 1]])):
            kept = copy.deepcopy(thing)
            self.assertRaises(NoYard, written, thing)
            self.assertRaises(NoYard, written, thing)
            self.assertEqual(repr(thing), repr(kept))


if __name__ == "__main__":
    unittest.main()
