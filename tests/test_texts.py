import copy
import math
import re
import unittest

from samples import FORTY, FRACTIONS, HAPS, OTHER_FORTY, Case, no_haps, other_things, standard
from seatclocks.errors import NoText
from seatclocks.fractions import plus
from seatclocks.texts import fraction_read, fraction_text, haps_read, haps_text

# Signs that are put in or put for others: those of the writing, blanks of many kinds, other figures, other signs.
SIGNS = "012789-+/@ \t\n._,eaxj()'\u00a0\u2009\u2212\u2044\u0660\u0661\u00b2\u00bd\uff11\u0967\u2460"

WRITTEN_NUMBER = re.compile("0|-?[1-9][0-9]*")

# Numbers about as long as are promised to be written, with noughts and without.
LONG_NUMBERS = [
    1, 9, 10, 99, 100, 10 ** 9, 10 ** 18 - 1, 10 ** 18, 10 ** 59, 10 ** 60 - 1, 10 ** 60, 10 ** 60 + 1, 10 ** 64,
    10 ** 100 + 5, 10 ** 120 - 1, 10 ** 120, 10 ** 180 + 10 ** 60, 10 ** 400 + 10 ** 9, 7 * 10 ** 1000 + 30,
    10 ** 1999, 10 ** 1999 + 1, 10 ** 2000 - 1,
]


def meant(text):
    """The fraction that is written so, or None: a reading of its own to compare with."""
    parts = text.split("/")
    if len(parts) > 2 or any(WRITTEN_NUMBER.fullmatch(part) is None for part in parts):
        return None
    numbers = [int(part) for part in parts]
    if len(numbers) == 1:
        return (numbers[0], 1)
    return tuple(numbers) if numbers[1] > 1 and math.gcd(numbers[0], numbers[1]) == 1 else None


def meant_haps(text):
    """The haps that are written so, or None."""
    haps = [tuple(meant(part) for part in written.split("@")) for written in text.split(" ")]
    return haps if all(len(hap) == 2 and None not in hap for hap in haps) else None


def bent_texts(text):
    """Each text with one sign put in, left out or put otherwise, and with two that stand side by side turned."""
    ahead_and_behind = [(text[:k], text[k:]) for k in range(len(text) + 1)]
    put_in = {ahead + sign + behind for ahead, behind in ahead_and_behind for sign in SIGNS}
    left_out = {ahead + behind[1:] for ahead, behind in ahead_and_behind}
    otherwise = {ahead + sign + behind[1:] for ahead, behind in ahead_and_behind if behind for sign in SIGNS}
    turned = {ahead + behind[1:2] + behind[:1] + behind[2:] for ahead, behind in ahead_and_behind}
    return sorted((put_in | left_out | otherwise | turned) - {text})


class Written(Case):
    def test_whole_ones(self):
        for one, text in [((0, 1), "0"), ((1, 1), "1"), ((-1, 1), "-1"), ((10, 1), "10"), ((-205, 1), "-205"),
                          ((FORTY, 1), "9" * 40), ((-10 ** 39, 1), "-1" + "0" * 39)]:
            self.assertEqual(fraction_text(one), text)
            self.check_fraction(fraction_read(text), one)

    def test_ones_with_a_bottom(self):
        for one, text in [
            ((1, 2), "1/2"), ((-1, 2), "-1/2"), ((10, 3), "10/3"), ((-70, 101), "-70/101"),
            ((1, FORTY), "1/" + "9" * 40), ((-OTHER_FORTY, 10 ** 39), "-1" + "0" * 38 + "7/1" + "0" * 39),
        ]:
            self.assertEqual(fraction_text(one), text)
            self.check_fraction(fraction_read(text), one)

    def test_what_is_written_is_a_text(self):
        for one in FRACTIONS:
            self.assertIs(type(fraction_text(one)), str)
        self.assertIs(type(haps_text(HAPS)), str)

    def test_each_is_read_to_what_was_written(self):
        for top in range(-30, 31):
            for bottom in range(1, 25):
                if math.gcd(top, bottom) == 1:
                    self.assertEqual(meant(fraction_text((top, bottom))), (top, bottom))
                    self.check_fraction(fraction_read(fraction_text((top, bottom))), (top, bottom))
        for one in FRACTIONS:
            self.assertEqual(meant(fraction_text(one)), one)
            self.check_fraction(fraction_read(fraction_text(one)), one)

    def test_numbers_of_up_to_two_thousand_figures(self):
        for number in LONG_NUMBERS:
            for whole in [(number, 1), (-number, 1)]:
                self.assertEqual(fraction_text(whole), str(whole[0]))
                self.check_fraction(fraction_read(fraction_text(whole)), whole)
        for number in LONG_NUMBERS[1:]:
            for one in [(1, number), (1 - number, number), (number + 1, number), (-number, number - 1)]:
                if max(abs(one[0]), one[1]) < 10 ** 2000:
                    self.assertEqual(fraction_text(one), str(one[0]) + "/" + str(one[1]))
                    self.check_fraction(fraction_read(fraction_text(one)), one)

    def test_a_text_of_two_thousand_signs(self):
        one = (-(10 ** 999 - 1), 10 ** 998)
        self.assertEqual(len(fraction_text(one)), 2000)
        self.check_fraction(fraction_read(fraction_text(one)), one)
        self.check_refused(NoText, fraction_read, "0" + fraction_text(one)[1:])

    def test_what_was_told_is_written_too(self):
        grown = (0, 1)
        for one in [(1, 10 ** 39 + 2 * k + 1) for k in range(40)]:
            grown = plus(grown, one)
        self.assertGreater(grown[1], 10 ** 1000)
        self.assertEqual(fraction_text(grown), str(grown[0]) + "/" + str(grown[1]))
        self.check_fraction(fraction_read(fraction_text(grown)), grown)


class WrittenHaps(Case):
    def check_haps(self, told, haps):
        self.assertIs(type(told), list)
        self.assertEqual(len(told), len(haps))
        for one, other in zip(told, haps):
            self.check_hap(one, other)

    def test_one_hap(self):
        for hap, text in [(((0, 1), (-1, 2)), "0@-1/2"), (((0, 1), (0, 1)), "0@0"), (((-3, 4), (7, 1)), "-3/4@7"),
                          (((1, 3), (-2, 5)), "1/3@-2/5"), (((FORTY, 1), (1, FORTY)), "9" * 40 + "@1/" + "9" * 40)]:
            self.assertEqual(haps_text([hap]), text)
            self.check_haps(haps_read(text), [hap])

    def test_many_haps_in_their_order(self):
        haps = [((1, 2), (0, 1)), ((0, 1), (-1, 2)), ((1, 2), (0, 1)), ((-5, 1), (2, 3))]
        self.assertEqual(haps_text(haps), "1/2@0 0@-1/2 1/2@0 -5@2/3")
        self.check_haps(haps_read("1/2@0 0@-1/2 1/2@0 -5@2/3"), haps)
        self.check_haps(haps_read("-5@2/3 0@-1/2"), [((-5, 1), (2, 3)), ((0, 1), (-1, 2))])

    def test_all_are_read_to_what_was_written(self):
        for many in range(1, len(HAPS) + 1):
            self.check_haps(haps_read(haps_text(HAPS[:many])), HAPS[:many])
        pairs = [(one, other) for one in FRACTIONS for other in FRACTIONS]
        for hap in pairs:
            self.check_haps(haps_read(haps_text([hap])), [hap])
        # A text that was told may be handed in again whatever its size.
        self.assertGreater(len(haps_text(pairs)), 2000)
        self.check_haps(haps_read(haps_text(pairs)), pairs)

    def test_a_text_of_two_thousand_signs(self):
        text = " ".join(["0@-1/2"] * 285 + ["12@34"])
        self.assertEqual(len(text), 2000)
        self.check_haps(haps_read(text), [((0, 1), (-1, 2))] * 285 + [((12, 1), (34, 1))])
        self.assertEqual(haps_text(haps_read(text)), text)

    def test_the_list_that_is_told_is_a_new_one(self):
        told = haps_read("0@-1/2 1@1")
        again = haps_read("0@-1/2 1@1")
        self.assertIsNot(told, again)
        told.append("more")
        told[0] = None
        self.assertEqual(again, [((0, 1), (-1, 2)), ((1, 1), (1, 1))])
        self.assertEqual(haps_read("0@-1/2 1@1"), [((0, 1), (-1, 2)), ((1, 1), (1, 1))])

    def test_the_list_that_is_handed_in_stays_and_nothing_hangs_on_it(self):
        haps = list(HAPS)
        text = haps_text(haps)
        self.assertEqual(haps, HAPS)
        haps.pop()
        self.assertEqual(haps_text(haps), text.rpartition(" ")[0])
        self.assertEqual(haps_text(HAPS), text)


class Refused(Case):
    def check_reading(self, read, text, expected):
        """The text is read just so, or refused where nothing is meant by it; asked again likewise."""
        for _ in range(2):
            if expected is None:
                self.check_refused(NoText, read, text)
            else:
                self.assertEqual(read(text), expected)

    def test_fractions_written_otherwise(self):
        for text in [
            "", "-", "/", "@", "00", "01", "-01", "-0", "+0", "+1", "--1", "1-", "1/1", "0/1", "-3/1", "0/2", "2/4",
            "-2/4", "3/3", "1/0", "0/0", "-1/0", "1/-2", "-1/-2", "1/+2", "1/02", "01/2", "1/-0", "-0/2", "1/", "/2",
            "1//2", "1/2/3", "1/2/", "/1/2", "-/2", "1/-", "- 1", "1 /2", "1/ 2", " 1", "1 ", " 1/2", "1/2 ", "1\n",
            "\n1", "1\t", "1/2\n", "1_000", "1.0", "0.5", "1e3", "0x1", "1,000", "one", "None", "(1, 2)", "1/2 1/3",
            "1@2", "0@-1/2", "\u0661", "\u00b2", "1/\u0662", "\uff11", "\u00bd", "\u2460", "\u22121", "1\u20442",
            "\u00a01", "1\u200b", "\ufeff1", "\x001", "1\x00", "\ud800",
        ]:
            with self.subTest(text=ascii(text)):
                self.assertIsNone(meant(text))
                self.check_reading(fraction_read, text, None)
                self.check_reading(haps_read, text + "@0", None)
                self.check_reading(haps_read, "0@" + text, None)

    def test_haps_written_otherwise(self):
        for text in [
            "", " ", "0", "@", "0@", "@0", "0@@0", "0@0@0", "0@0@", "@0@0", "0 0", "0@ 0", "0 @0", " 0@0", "0@0 ",
            "0@0  0@0", "0@0\n", "0@0\n0@0", "0@0\t0@0", "0@0\u00a00@0", "0@0,0@0", "0@0, 0@0", "0@0;", "[0@0]",
            "0@0 0", "0 0@0", "0@0 @", "0@0 1", "0@1/1", "0@-0", "-0@0", "00@0", "0@00", "2/4@0", "0@2/4", "1/0@0",
            "+1@0", "0@0 0@0 01@0", "0@0@0 0@0",
        ]:
            with self.subTest(text=ascii(text)):
                self.assertIsNone(meant_haps(text))
                self.check_reading(haps_read, text, None)

    def test_a_fraction_with_one_sign_bent(self):
        for text in ["0", "1", "-1", "10", "-20", "1/2", "-1/2", "10/3", "-9/10", "0@0", "9" * 40, "-1/" + "9" * 40]:
            self.check_reading(fraction_read, text, meant(text))
            for bent in bent_texts(text):
                self.check_reading(fraction_read, bent, meant(bent))

    def test_haps_with_one_sign_bent(self):
        for text in ["0@0", "0@-1/2", "-3/4@10", "1/2@0 0@-1/2", "1@2 -1@1/7 10@0"]:
            self.check_reading(haps_read, text, meant_haps(text))
            for bent in bent_texts(text):
                self.check_reading(haps_read, bent, meant_haps(bent))

    def test_what_is_still_such_a_writing_is_read_to_what_it_writes(self):
        for bent in ["11/2", "1/3", "-1/2", "12", "-1/21"]:
            self.check_fraction(fraction_read(bent), meant(bent))
            self.assertEqual(fraction_text(fraction_read(bent)), bent)
        self.assertEqual(haps_read("0@-1/21 10@1"), [((0, 1), (-1, 21)), ((10, 1), (1, 1))])

    def test_what_is_no_text(self):
        things = [thing for thing in other_things() + no_haps() if not isinstance(thing, str)]
        things += [["1"], ["0@0"], ("0@0",), {"0@0": 1}, (1, 2), ((0, 1), (0, 1)), 10 ** 40, -1]
        for thing in things:
            self.check_refused(NoText, fraction_read, thing)
            self.check_refused(NoText, haps_read, thing)

    def test_texts_among_anything(self):
        for text in [thing for thing in other_things() if isinstance(thing, str)]:
            self.check_reading(fraction_read, text, meant(text))
            self.check_reading(haps_read, text, meant_haps(text))

    def test_long_texts(self):
        for text in [
            "0" * 2000, "-" * 2000, "/" * 2000, "@" * 2000, " " * 2000, "1" + "/" * 1999, "0@0 " * 500, "1/2" * 600,
            "a" * 2000,
        ]:
            self.check_reading(fraction_read, text, None)
            self.check_reading(haps_read, text, None)

    def test_same_again_behind_refusals(self):
        told = [fraction_read("-1/2"), haps_read("0@-1/2")]
        for text in ["1/1", "-0", "", "0@0 "]:
            self.check_refused(NoText, fraction_read, text)
            self.check_refused(NoText, haps_read, text)
        self.assertEqual([fraction_read("-1/2"), haps_read("0@-1/2")], told)


class Handed(Case):
    def test_what_is_written_stays_as_it_was(self):
        haps = copy.deepcopy(HAPS)
        texts = [haps_text(haps), haps_text(haps)]
        self.assertEqual(texts[0], texts[1])
        self.assertEqual(haps, HAPS)
        for one in FRACTIONS:
            self.assertEqual(fraction_text(one), fraction_text(one))
            self.assertEqual(standard(fraction_read(fraction_text(one))), standard(one))


if __name__ == "__main__":
    unittest.main()
