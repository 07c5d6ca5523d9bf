import itertools
import random
import re
import unittest

from samples import YARDS, drawn_yards
from sandyard.errors import NoRest, NoText, NotLasting, NoTumble, NoYard, SandError
from sandyard.reading import read
from sandyard.things import is_yard
from sandyard.writing import written

SIGNS = tuple(chr(code) for code in range(32, 127)) + ("\t", "\n", "\r")
MANY_FIGURES = ("1" * 5000, "0" * 5000, "0" * 4999 + "1", "1" + "0" * 4999, "9" * 20000, "-" + "1" * 5000)
WORDS = (
    "", "yard", "link", "Yard", "YARD", "LINK", "yards", "lin", "k", "grains", "one", "True", "None", "+", "-",
    "01", "00", "001", "+1", "-1", "-0", "+0", "1_0", "1_", "_1", "1.0", "1e0", "0x1", "0b1", "1L", "(1)", "1,", ",",
    "10", "11", "55", "100", "6", "7", "8", "9",
) + MANY_FIGURES


def yard_of_writing(text):
    """The yard of which the text is the writing, or None, found without read."""
    if not re.fullmatch("[a-z0-9 ]{1,300}", text):
        return None
    numbers = [int(figure) for figure in re.findall("[0-9]", text)]
    triples = tuple(zip(numbers[1::3], numbers[2::3], numbers[3::3]))
    yard = (numbers[0], triples) if numbers else None
    return yard if is_yard(yard) and written(yard) == text else None


def all_small_yards():
    for count in (1, 2, 3):
        pairs = list(itertools.combinations(range(count + 1), 2))
        for manies in itertools.product(range(5), repeat=len(pairs)):
            yard = (count, tuple(pair + (many,) for pair, many in zip(pairs, manies) if many))
            if is_yard(yard):
                yield yard


class ReadsWritings(unittest.TestCase):
    def test_by_hand(self):
        for text, yard in (
            ("yard 1 link 0 1 1", (1, ((0, 1, 1),))),
            ("yard 1 link 0 1 4", (1, ((0, 1, 4),))),
            ("yard 2 link 0 1 1 link 0 2 2", (2, ((0, 1, 1), (0, 2, 2)))),
            ("yard 2 link 0 2 3 link 1 2 4", (2, ((0, 2, 3), (1, 2, 4)))),
            (
                "yard 5 link 0 5 1 link 1 2 1 link 2 3 1 link 3 4 1 link 4 5 1",
                (5, ((0, 5, 1), (1, 2, 1), (2, 3, 1), (3, 4, 1), (4, 5, 1))),
            ),
        ):
            with self.subTest(text=text):
                self.assertEqual(read(text), yard)

    def test_every_yard_of_one_to_three_places(self):
        for yard in all_small_yards():
            self.assertEqual(read(written(yard)), yard)

    def test_many_yards_of_one_to_five_places(self):
        for yard in list(YARDS) + drawn_yards(random.Random(12), 300):
            self.assertEqual(read(written(yard)), yard)

    def test_kinds(self):
        for yard in YARDS:
            # Equal is not enough: True == 1.
            self.assertEqual(repr(read(written(yard))), repr(yard))
            self.assertIs(is_yard(read(written(yard))), True)

    def test_the_same_is_told_again(self):
        for yard in YARDS:
            self.assertEqual(read(written(yard)), read(written(yard)))


class RefusesOtherTexts(unittest.TestCase):
    def check(self, text):
        """Read if it is the writing of another yard by chance, else refused."""
        yard = yard_of_writing(text)
        if yard is None:
            self.refused(text)
        else:
            self.assertEqual(read(text), yard)

    def refused(self, text):
        try:
            told = read(text)
        except NoText:
            return
        self.fail(f"{text[:300]!r} was read as {told!r}")

    def test_texts_by_hand(self):
        for text in (
            "", " ", "\n", "\t", "yard", "yard ", "yard 1", "yard 1 ", "yard 0", "link 0 1 1", "1 0 1 1", "0",
            "yard link", "yard 1 link", "yard 1 link 0", "yard 1 link 0 1", "yard 1 link 0 1 1 1",
            "yard 1 link 0 1 1 link",
            "yard 1 link 0 1 1 link 0 1", "yard1link011", "yard 1link 0 1 1", "yard 1, link 0 1 1", "yard 1 0 1 1",
            "yard 1 1 link 0 1 1", "yard 1 yard 0 1 1", "link 1 link 0 1 1", "(1, ((0, 1, 1),))", "1 link 0 1 1",
            "yard 1 link 0 1 1yard 1 link 0 1 1", "yard 1 link 0 1 1 yard 1 link 0 1 1", "link 0 1 1 yard 1",
            "yard 1 link 0 1 1\nyard 1 link 0 1 1", "YARD 1 LINK 0 1 1", "yard one link 0 1 1", "yard 1 link ditch 1 1",
        ):
            with self.subTest(text=text):
                self.refused(text)

    def test_blanks_and_rows_ends_ahead_behind_and_between(self):
        for yard in YARDS:
            text = written(yard)
            for gap in (" ", "\n", "\t", "\r", "\r\n", "  ", " \n"):
                self.refused(gap + text)
                self.refused(text + gap)
                self.refused(gap + text + gap)
            for k in [k for k, sign in enumerate(text) if sign == " "]:
                for gap in ("", "  ", "   ", "\t", "\n", "\r", "\r\n", " \t", "\t ", " \n", "\n ", "_", ",", "-"):
                    self.refused(text[:k] + gap + text[k + 1:])
            self.refused(text.replace(" ", "  "))
            self.refused(text.replace(" ", "\t"))
            self.refused(text.replace(" ", "\n"))

    def test_a_sign_less(self):
        for yard in YARDS:
            text = written(yard)
            for k in range(len(text)):
                self.check(text[:k] + text[k + 1:])
                self.check(text[:k])
                self.check(text[k + 1:])

    def test_a_sign_more(self):
        for yard in YARDS:
            text = written(yard)
            for k in range(len(text) + 1):
                for sign in SIGNS:
                    self.refused(text[:k] + sign + text[k:])

    def test_another_sign(self):
        for yard in YARDS:
            text = written(yard)
            for k in range(len(text)):
                for sign in SIGNS:
                    self.check(text[:k] + sign + text[k + 1:])

    def test_a_word_left_out_or_twice_or_exchanged(self):
        for yard in YARDS:
            words = written(yard).split(" ")
            for k in range(len(words)):
                self.refused(" ".join(words[:k] + words[k + 1:]))
                self.refused(" ".join(words[:k + 1] + words[k:]))
                self.check(" ".join(words[:k] + words[k:k + 2][::-1] + words[k + 2:]))

    def test_another_word(self):
        for yard in YARDS:
            words = written(yard).split(" ")
            for k in range(len(words)):
                for word in WORDS:
                    self.check(" ".join(words[:k] + [word] + words[k + 1:]))
                    self.refused(" ".join(words[:k] + [word] + words[k:]))

    def test_numbers_otherwise_written(self):
        for yard in YARDS:
            words = written(yard).split(" ")
            for k in [k for k, word in enumerate(words) if word.isdigit()]:
                figure = words[k]
                for other in (
                    "0" + figure, "00" + figure, "0" * 5000 + figure, "+" + figure, "-" + figure, figure + "_0",
                    figure + ".0", "0_" + figure, figure + "0", figure * 2, figure * 4299, figure * 4301, figure * 9000,
                ):
                    self.refused(" ".join(words[:k] + [other] + words[k + 1:]))

    def test_counts_out_of_bounds(self):
        six = " ".join(f"link 0 {place} 1" for place in range(1, 7))
        five = " ".join(f"link 0 {place} 1" for place in range(1, 6))
        self.assertEqual(read("yard 5 " + five), (5, tuple((0, place, 1) for place in range(1, 6))))
        self.refused("yard 6 " + six)
        self.refused("yard 6 " + five)
        self.refused("yard 5 " + six)
        self.refused("yard 4 " + five)
        self.refused("yard 0")
        self.refused("yard 0 link 0 1 1")

    def test_ties_that_make_no_yard(self):
        for text in (
            "yard 2 link 0 2 1 link 0 1 1",
            "yard 2 link 1 2 1 link 0 1 1",
            "yard 3 link 0 1 1 link 1 3 1 link 1 2 1",
            "yard 1 link 0 1 1 link 0 1 1",
            "yard 1 link 0 1 1 link 0 1 2",
            "yard 1 link 0 1 2 link 0 1 1",
            "yard 1 link 1 0 1",
            "yard 1 link 0 0 1 link 0 1 1",
            "yard 1 link 0 1 1 link 1 1 1",
            "yard 2 link 0 1 1 link 2 1 1",
            "yard 1 link 0 1 1 link 0 2 1",
            "yard 1 link 0 1 1 link 1 2 1",
            "yard 2 link 0 1 1 link 0 2 1 link 2 3 1",
            "yard 1 link 0 1 0",
            "yard 1 link 0 1 5",
            "yard 2 link 0 1 1 link 0 2 1 link 1 2 0",
            "yard 2 link 0 1 1 link 0 2 1 link 1 2 5",
        ):
            with self.subTest(text=text):
                self.refused(text)

    def test_ties_in_any_other_order(self):
        for yard in YARDS:
            head, *links = written(yard).split(" link ")
            for order in itertools.islice(itertools.permutations(links), 1, 200):
                self.refused(" link ".join((head,) + order))

    def test_places_that_do_not_lead_to_the_ditch(self):
        for text in (
            "yard 1",
            "yard 2 link 0 1 1",
            "yard 2 link 0 2 1",
            "yard 2 link 1 2 1",
            "yard 3 link 0 1 1 link 2 3 1",
            "yard 3 link 0 3 1 link 1 2 4",
            "yard 5 link 1 2 1 link 2 3 1 link 3 4 1 link 4 5 1",
            "yard 5 link 0 1 1 link 1 2 1 link 3 4 1 link 3 5 1 link 4 5 1",
        ):
            with self.subTest(text=text):
                self.refused(text)

    def test_very_long_texts(self):
        for text in (
            "yard 1" + " link 0 1 1" * 5000, "yard 1 link 0 1 1" * 5000, " " * 50000, "yard " * 20000, "1" * 50000,
            "yard 1 link 0 1 1" + " " * 50000,
        ):
            self.refused(text)

    def test_the_refusal_can_be_taken_more_widely(self):
        for text in ("", "yard 6", "yard 1 link 0 1 " + "1" * 5000, "yard 1 link 0 1 x"):
            self.assertRaises(SandError, read, text)
            self.assertRaises(ValueError, read, text)
            with self.assertRaises(NoText) as taken:
                read(text)
            self.assertNotIsInstance(taken.exception, (NoYard, NoTumble, NoRest, NotLasting))


if __name__ == "__main__":
    unittest.main()
