"""Stage 10: stacks as texts (10.1)."""

import unittest

from layfaces.errors import NoStack, NoText
from layfaces.joins import cone, joined
from layfaces.kinds import full_stack, pairs_stack, ring_stack
from layfaces.stacks import is_stack, link, without
from layfaces.texts import read, shown
from samples import (
    ALONE, APART, EDGES, FOURTEEN, HINGED, NINE, NOUGHT, ODD, PATH, PINCHED, POINTS, SEVENTY, SHUT, STUCK, TAILED,
    TRIANGLE, TWISTED_TEN, full, no_stacks, small_stacks, told_stack,
)

SMALL = small_stacks(4)
OTHERS = EDGES + SHUT + [FOURTEEN, NINE, PINCHED, STUCK, TWISTED_TEN, full(8, 2), full(7, 4)]
# The signs of texts: the line feed, and from the blank to `~`, without the percent sign.
SIGNS = ["\n"] + [chr(number) for number in range(32, 127) if number != 37]


def told_shown(stack):
    """The words of 10.1, one for one."""
    text = str(stack[0]) + " " + str(stack[1]) + ":"
    for face in stack[2]:
        text += " " + ("".join(str(point) for point in face) if face else "-")
    return text


class TestShown(unittest.TestCase):
    def test_told_out(self):
        self.assertEqual(shown(PATH), "4 2: 01 13")
        self.assertEqual(shown(NOUGHT), "1 0: -")
        self.assertEqual(shown((8, 0, ((),))), "8 0: -")
        self.assertEqual(shown(POINTS), "5 1: 0 2 4")
        self.assertEqual(shown(ALONE), "8 4: 1357")
        self.assertEqual(shown(TRIANGLE), "3 2: 01 02 12")
        self.assertEqual(shown(HINGED), "5 3: 012 034")

    def test_by_the_words(self):
        for stack in SMALL + OTHERS:
            self.assertEqual(shown(stack), told_shown(stack))
        self.assertEqual(len(shown(SEVENTY)), 354)

    def test_no_stacks(self):
        for thing in no_stacks():
            with self.assertRaises(NoStack):
                shown(thing)


class TestRead(unittest.TestCase):
    def refused(self, thing):
        with self.assertRaises(NoText, msg=repr(thing)):
            read(thing)

    def test_told_out(self):
        self.assertEqual(read("4 2: 01 13"), PATH)
        self.assertEqual(read("1 0: -"), NOUGHT)
        self.assertEqual(read("8 0: -"), (8, 0, ((),)))
        self.assertEqual(read("5 1: 0 2 4"), POINTS)
        self.assertEqual(read("8 4: 1357"), ALONE)

    def test_every_stack_is_read_back(self):
        for stack in SMALL + OTHERS:
            found = read(told_shown(stack))
            self.assertEqual(repr(found), repr(stack))
            self.assertTrue(told_stack(found))

    def test_stacks_told_elsewhere(self):
        for stack in (
            link(TAILED, (2,)), link(TAILED, (2, 4)), without(TAILED, 2), cone(NOUGHT), joined(PATH, NOUGHT),
            full_stack(8, 4), pairs_stack(4), ring_stack(8),
        ):
            self.assertEqual(read(shown(stack)), stack)
            self.assertIs(is_stack(read(shown(stack))), True)

    def test_one_sign_more_less_or_another(self):
        texts = {told_shown(stack) for stack in SMALL}
        for stack in (NOUGHT, (4, 0, ((),)), POINTS, PATH, APART, TRIANGLE, (4, 4, ((0, 1, 2, 3),)), full(4, 3)):
            text = told_shown(stack)
            near = [text[:at] + text[at + 1:] for at in range(len(text))]
            near += [text[:at] + sign + text[at:] for at in range(len(text) + 1) for sign in SIGNS]
            near += [text[:at] + sign + text[at + 1:] for at in range(len(text)) for sign in SIGNS]
            for other in near:
                if other in texts or told_writes(other):
                    self.assertEqual(told_shown(read(other)), other)
                else:
                    self.refused(other)

    def test_blanks(self):
        for text in (
            " 4 2: 01 13", "4 2: 01 13 ", "4  2: 01 13", "4 2:  01 13", "4 2: 01  13", "4 2 : 01 13", "42: 01 13",
            "4 2:01 13", "4 2: 0113", "4 2: 0 1 13", "4 2:", "4 2: ", "4 2", "4 2 ", "4", "4 ", "", " ", "  ", ":",
            ": ",
            "1 0:-", "1 0: ", "1 0:", "1 0:  ", "1 0: - ", "1 0:  -", "4\n2: 01 13", "4 2: 01\n13", "4 2: 01 13\n",
            "\n4 2: 01 13", "4 2:\n01 13", "4\t2: 01 13",
        ):
            self.refused(text)

    def test_other_signs(self):
        for text in (
            "4 2; 01 13", "4 2 01 13", "4 2:: 01 13", "4: 2: 01 13", "4, 2: 01 13", "4 2: 01, 13", "4 2: 01 -13",
            "4 2: 01 1a", "4 2: (0,1) 13", "4 2: 01 13.", "+4 2: 01 13", "-4 2: 01 13", "4 -2: 01 13", "n k: 01",
            "3 1: 0 - 1", "1 0: --", "1 0: 0", "1 0: ()", "1 1: -", "4 2: - 01", "4 2: 01 -", "3 2: 0- 12",
        ):
            self.refused(text)

    def test_noughts_ahead(self):
        for text in ("04 2: 01 13", "4 02: 01 13", "1 00: -", "4 2: 001 13", "5 1: 00 02 04", "00 0: -", "08 4: 0123"):
            self.refused(text)

    def test_faces_out_of_order_twice_or_of_another_number_of_points(self):
        for text in (
            "4 2: 13 01", "4 2: 01 01", "4 2: 10 13", "4 2: 01 31", "4 2: 00 13", "4 2: 01 123", "4 2: 01 1",
            "4 2: 01 14", "4 2: 01 19", "5 1: 0 0", "5 1: 2 0", "1 0: - -", "4 3: 01 13", "4 1: 01 13",
        ):
            self.refused(text)

    def test_beyond_the_bounds(self):
        for text in (
            "0 0: -", "9 2: 01", "9 1: 8", "8 5: 01234", "2 3: 012", "1 2: 01", "10 2: 01", "8 8: 01234567", "8 1: 8",
            "8 1: 9", "1 1: 1",
        ):
            self.refused(text)

    def test_anything(self):
        for thing in ODD + [None, True, 4, PATH, ("4 2: 01 13",), ["4 2: 01 13"], {"4 2: 01 13": 1}, b"4 2: 01 13"]:
            if thing != "3 2: 01 02 12":
                self.refused(thing)
        self.assertEqual(read("3 2: 01 02 12"), TRIANGLE)

    def test_long_texts(self):
        for sign in SIGNS:
            self.refused(sign * 300)
        self.refused("4 2: " + "01 " * 98)
        self.refused("8 4: " + "0123 " * 58 + "0123")


def told_writes(text):
    """Whether a text writes a stack, by looking at each place of it."""
    if len(text) < 6 or text[1] != " " or text[3:5] != ": " or text[0] not in "12345678" or text[2] not in "01234":
        return False
    n, k = int(text[0]), int(text[2])
    words = text[5:].split(" ")
    if k == 0:
        return words == ["-"]
    good = ["".join(map(str, face)) for face in full(n, k)[2]] if k <= n else []
    return all(word in good for word in words) and words == sorted(set(words))


if __name__ == "__main__":
    unittest.main()
