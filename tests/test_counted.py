"""Stage 4: numbers told by what each brings (4.1 to 4.4)."""

import unittest
from itertools import permutations, product
from math import comb

from layfaces.counted import by_brought, counts_from, evened, told, told_around
from layfaces.errors import NoNumber, NoOrder, NoRow, NoStack
from layfaces.laying import brings, is_order
from layfaces.stacks import counts, link
from samples import (
    ALONE, APART, APART_FOUR, EDGES, FOURTEEN, HINGED, NINE, NOUGHT, ODD, PATH, PINCHED, POINTS, RING_AND_ONE,
    SEVENTY, STRIP, STUCK, TAILED, TEN, THREE_APART, TRIANGLE, TWISTED, TWISTED_TEN, full, misshapen, nested,
    no_stacks, one_of, small_stacks, swapped, told_numbers, told_parts,
)

SMALL = small_stacks(4)
STACKS = SMALL + EDGES + [
    THREE_APART, RING_AND_ONE, PINCHED, TWISTED, STUCK, NINE, TEN, TWISTED_TEN, FOURTEEN,
    full(5, 3), full(6, 4), full(7, 4), (8, 4, SEVENTY[2][::7]), (8, 3, full(8, 3)[2][3::5]),
]


def without_what_is_right(things, right):
    return [thing for thing in things if not one_of(thing, right)]


class TestTold(unittest.TestCase):
    def test_told_out(self):
        self.assertEqual(told(NOUGHT), (1,))
        self.assertEqual(told(POINTS), (1, 2))
        self.assertEqual(told(TRIANGLE), (1, 1, 1))
        self.assertEqual(told(PATH), (1, 1, 0))
        self.assertEqual(told(APART), (1, 2, -1))
        self.assertEqual(told(HINGED), (1, 2, -1, 0))
        self.assertEqual(told(STRIP), (1, 3, 0, 0))
        self.assertEqual(told(ALONE), (1, 0, 0, 0, 0))
        self.assertEqual(told(SEVENTY), (1, 4, 10, 20, 35))
        self.assertEqual(told(FOURTEEN), (1, 4, 10, 20, -21))

    def test_by_the_words(self):
        for stack in STACKS:
            numbers = told(stack)
            self.assertIs(type(numbers), tuple)
            self.assertEqual(numbers, told_numbers(stack), stack)

    def test_all_told_are_as_many_as_faces(self):
        for stack in STACKS:
            self.assertEqual(sum(told(stack)), len(stack[2]))

    def test_points_in_no_face_are_not_counted(self):
        self.assertEqual(told((8, 2, ((0, 1), (1, 3)))), told(PATH))


class TestCountsFrom(unittest.TestCase):
    def told_counts(self, row):
        k = len(row) - 1
        return tuple(sum(row[i] * comb(k - i, j - i) for i in range(j + 1)) for j in range(k + 1))

    def test_told_out(self):
        self.assertEqual(counts_from((1,)), (1,))
        self.assertEqual(counts_from((-7,)), (-7,))
        self.assertEqual(counts_from((1, 2)), (1, 3))
        self.assertEqual(counts_from((1, 1, 1)), (1, 3, 3))
        self.assertEqual(counts_from((1, 2, -1)), (1, 4, 2))
        self.assertEqual(counts_from((0, 0, 0, 0, 5)), (0, 0, 0, 0, 5))
        self.assertEqual(counts_from((1, 4, 10, 20, 35)), (1, 8, 28, 56, 70))

    def test_of_what_is_told_the_counts(self):
        for stack in STACKS:
            self.assertEqual(counts_from(told(stack)), counts(stack))

    def test_by_the_words(self):
        for many in range(1, 4):
            for row in product(range(-2, 3), repeat=many):
                self.assertEqual(counts_from(row), self.told_counts(row))
        for row in product((-10 ** 6, -3, 10 ** 6), repeat=5):
            self.assertEqual(counts_from(row), self.told_counts(row))
        for row in product((-999999, 0, 2), repeat=4):
            self.assertEqual(counts_from(row), self.told_counts(row))

    def test_one_to_five_numbers_at_both_bounds(self):
        for many in range(1, 6):
            for bound in (-10 ** 6, 10 ** 6):
                found = counts_from((bound,) * many)
                self.assertEqual(found, self.told_counts((bound,) * many))
                self.assertIs(type(found), tuple)
                for at in range(many):
                    beyond = bound + (1 if bound > 0 else -1)
                    with self.assertRaises(NoRow):
                        counts_from((bound,) * at + (beyond,) + (bound,) * (many - at - 1))

    def test_refused(self):
        for row in ((), (1,) * 6, (1,) * 7, [1], [1, 2], {1: 1}, {}, "", "1", None, True, 1, 0, -1, 10 ** 30):
            with self.assertRaises(NoRow):
                counts_from(row)
        for row in ((True,), (False, 1), (1, True), (1, None), (1, "1"), (1, (1,)), (1, [1]), ((1,),), (1, 10 ** 30)):
            with self.assertRaises(NoRow):
                counts_from(row)
        for wrap in (lambda thing: (thing,), lambda thing: [thing], lambda thing: (1, thing)):
            for deep in (3, 10, 20):
                with self.assertRaises(NoRow):
                    counts_from(nested(wrap, deep))

    def test_odd_things_at_each_place(self):
        numbers = range(-10 ** 6, 10 ** 6 + 1)
        for odd in ODD:
            for good in ((1,), (1, 2, 3), (1, 2, 3, 4, 5)):
                for thing in swapped(good, odd):
                    right = type(thing) is tuple and all(type(each) is int and each in numbers for each in thing)
                    if right and 1 <= len(thing) <= 5:
                        self.assertEqual(counts_from(thing), self.told_counts(thing))
                    else:
                        with self.assertRaises(NoRow):
                            counts_from(thing)


class TestByBrought(unittest.TestCase):
    def test_told_out(self):
        self.assertEqual(by_brought(NOUGHT, (0,)), (1,))
        self.assertEqual(by_brought(ALONE, (0,)), (1, 0, 0, 0, 0))
        self.assertEqual(by_brought(TRIANGLE, (2, 0, 1)), (1, 1, 1))
        self.assertEqual(by_brought(PATH, (1, 0)), (1, 1, 0))
        self.assertEqual(by_brought(POINTS, (2, 0, 1)), (1, 2))
        self.assertEqual(by_brought(SEVENTY, tuple(range(70))), (1, 4, 10, 20, 35))

    def test_each_order_tells_what_is_told(self):
        for stack in SMALL + [STRIP, TAILED, HINGED, PINCHED, THREE_APART, full(5, 4)]:
            for row in permutations(range(len(stack[2]))):
                if is_order(stack, row):
                    brought = [len(points) for points in brings(stack, row)]
                    found = by_brought(stack, row)
                    self.assertEqual(found, tuple(brought.count(i) for i in range(stack[1] + 1)))
                    self.assertEqual(found, told(stack))
                    self.assertIs(type(found), tuple)
                    self.assertGreaterEqual(min(found), 0)
                else:
                    with self.assertRaises(NoOrder):
                        by_brought(stack, row)

    def test_what_is_no_order(self):
        for stack in (NOUGHT, PATH, APART, STRIP):
            rows = list(permutations(range(len(stack[2]))))
            orders = [row for row in rows if is_order(stack, row)]
            things = ODD + list(misshapen(rows[0])) + [thing for odd in ODD for thing in swapped(rows[0], odd)]
            for thing in without_what_is_right(things + [list(rows[0]), ()], orders):
                with self.assertRaises(NoOrder):
                    by_brought(stack, thing)


class TestEvened(unittest.TestCase):
    def test_told_out(self):
        self.assertEqual(evened(NOUGHT), 1)
        self.assertEqual(evened(POINTS), -2)
        self.assertEqual(evened(TRIANGLE), 1)
        self.assertEqual(evened(PATH), 0)
        self.assertEqual(evened(APART), -1)
        self.assertEqual(evened(full(4, 3)), -1)
        self.assertEqual(evened(SEVENTY), 35)
        self.assertEqual(evened(FOURTEEN), -21)

    def test_by_the_words(self):
        for stack in STACKS:
            wanted = sum(-1 if len(part) % 2 else 1 for part in told_parts(stack))
            self.assertEqual(evened(stack), wanted)
            self.assertEqual(evened(stack), (-1) ** stack[1] * told(stack)[-1])
            self.assertIs(type(evened(stack)), int)


class TestToldAround(unittest.TestCase):
    def test_told_out(self):
        self.assertEqual(told_around((1, 1, ((0,),))), (1,))
        self.assertEqual(told_around(POINTS), (3,))
        self.assertEqual(told_around(TRIANGLE), (3, 3))
        self.assertEqual(told_around(PATH), (3, 1))
        self.assertEqual(told_around(APART_FOUR), (8, 0, 0, 0))
        self.assertEqual(told_around(SEVENTY), (8, 32, 80, 160))

    def test_by_the_words(self):
        for stack in STACKS:
            if stack[1] > 0:
                points = sorted({point for face in stack[2] for point in face})
                rows = [told_numbers(link(stack, (point,))) for point in points]
                found = told_around(stack)
                self.assertIs(type(found), tuple)
                self.assertEqual(found, tuple(sum(row[i] for row in rows) for i in range(stack[1])))

    def test_by_what_is_told(self):
        for stack in STACKS:
            n, k, faces = stack
            if k > 0:
                numbers = told(stack)
                wanted = tuple((i + 1) * numbers[i + 1] + (k - i) * numbers[i] for i in range(k))
                self.assertEqual(told_around(stack), wanted)

    def test_k_of_nought_is_refused(self):
        for n in range(1, 9):
            with self.assertRaises(NoNumber):
                told_around((n, 0, ((),)))


class TestRefused(unittest.TestCase):
    def test_stacks(self):
        asked = [
            told, evened, told_around, lambda thing: by_brought(thing, (0, 1)), lambda thing: by_brought(thing, None),
        ]
        for thing in no_stacks():
            for ask in asked:
                with self.assertRaises(NoStack):
                    ask(thing)


if __name__ == "__main__":
    unittest.main()
