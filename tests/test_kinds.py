"""Stage 5: stacks of told kinds, traded and pushed ones (5.1 to 5.4)."""

import unittest
from itertools import combinations, permutations

from layfaces.errors import NoNames, NoNumber, NoStack
from layfaces.kinds import (
    first_unpushed, first_untraded, full_stack, named_order, pairs_stack, plain_order, ring_stack, row_stack,
)
from layfaces.laying import is_order
from layfaces.stacks import is_stack
from samples import (
    ALONE, APART, EDGES, FOURTEEN, HINGED, NINE, NOUGHT, ODD, PATH, PINCHED, POINTS, RING_AND_ONE, SEVENTY, STRIP,
    STUCK, TAILED, TEN, THREE_APART, TRIANGLE, TWISTED, TWISTED_TEN, full, misshapen, no_stacks, small_stacks,
    swapped,
)

SMALL = small_stacks(4)
FIVE = [
    (5, k, some) for k in (2, 3) for many in range(1, 11)
    for some in list(combinations(combinations(range(5), k), many))[::3]
]
STACKS = SMALL + FIVE + EDGES + [
    THREE_APART, RING_AND_ONE, PINCHED, TWISTED, STUCK, NINE, TEN, TWISTED_TEN, FOURTEEN,
    (8, 4, SEVENTY[2][:-1]), (8, 4, SEVENTY[2][1:]), (8, 4, SEVENTY[2][:40]), (8, 4, SEVENTY[2][::3]),
    (8, 3, full(8, 3)[2][:30]), (6, 4, full(6, 4)[2][2:]), (8, 2, full(7, 2)[2]),
]
BOTH = full(5, 3)
TRADED_ALONE = (4, 2, ((0, 2), (0, 3), (1, 2), (1, 3)))
PUSHED_ALONE = (4, 2, ((0, 1), (0, 2), (0, 3), (1, 2)))
NEITHER = (4, 2, ((0, 1), (2, 3)))
NEITHER_BUT_LAID = (4, 2, ((0, 1), (0, 2), (1, 3)))


def told_untraded(stack):
    """The words of 5.2: all (one, other, point) for which there is no trade."""
    faces = [set(face) for face in stack[2]]
    return [
        (one, other, point)
        for one, first in enumerate(faces) for other, second in enumerate(faces) for point in first - second
        if not any(first - {point} | {each} in faces for each in second - first)
    ]


def told_unpushed(stack):
    """The words of 5.3: all (number, point, lesser) that make no face."""
    faces = [set(face) for face in stack[2]]
    return [
        (number, point, lesser)
        for number, face in enumerate(faces) for point in face for lesser in range(stack[0])
        if lesser < point and lesser not in face and face - {point} | {lesser} not in faces
    ]


def told_named(stack, names):
    """The words of 5.4 on the order by names."""
    come = [sorted(names[point] for point in face) for face in stack[2]]
    return tuple(come.index(face) for face in sorted(come))


def some_names(n):
    rising = tuple(range(n))
    found = [rising, rising[::-1], rising[1:] + rising[:1], rising[::2] + rising[1::2]]
    return found + [tuple((3 * point + 1) % n for point in rising)] * (n % 3 > 0)


class TestToldStacks(unittest.TestCase):
    def test_full_stacks(self):
        for n in range(1, 9):
            for k in range(min(n, 4) + 1):
                found = full_stack(n, k)
                self.assertEqual(found, full(n, k))
                self.assertIs(is_stack(found), True)
        self.assertEqual(full_stack(1, 0), (1, 0, ((),)))
        self.assertEqual(len(full_stack(8, 4)[2]), 70)

    def test_full_stacks_one_beyond(self):
        for n in range(-1, 11):
            for k in range(-1, 7):
                if not (1 <= n <= 8 and 0 <= k <= min(n, 4)):
                    with self.assertRaises(NoNumber):
                        full_stack(n, k)

    def test_pairs_stacks(self):
        self.assertEqual(pairs_stack(1), (2, 1, ((0,), (1,))))
        self.assertEqual(pairs_stack(2), (4, 2, ((0, 2), (0, 3), (1, 2), (1, 3))))
        for d in range(1, 5):
            wanted = [
                face for face in combinations(range(2 * d), d)
                if all(len({2 * i, 2 * i + 1} & set(face)) == 1 for i in range(d))
            ]
            self.assertEqual(pairs_stack(d), (2 * d, d, tuple(wanted)))
            self.assertIs(is_stack(pairs_stack(d)), True)

    def test_row_stacks(self):
        self.assertEqual(row_stack(2), (2, 2, ((0, 1),)))
        self.assertEqual(row_stack(4), (4, 2, ((0, 1), (1, 2), (2, 3))))
        for n in range(2, 9):
            wanted = [face for face in combinations(range(n), 2) if face[1] - face[0] == 1]
            self.assertEqual(row_stack(n), (n, 2, tuple(wanted)))
            self.assertIs(is_stack(row_stack(n)), True)

    def test_ring_stacks(self):
        self.assertEqual(ring_stack(3), TRIANGLE)
        self.assertEqual(ring_stack(4), (4, 2, ((0, 1), (0, 3), (1, 2), (2, 3))))
        for n in range(3, 9):
            wanted = [face for face in combinations(range(n), 2) if face[1] - face[0] in (1, n - 1)]
            self.assertEqual(ring_stack(n), (n, 2, tuple(wanted)))
            self.assertIs(is_stack(ring_stack(n)), True)

    def test_one_beyond_on_either_side(self):
        for ask, least, most in ((pairs_stack, 1, 4), (row_stack, 2, 8), (ring_stack, 3, 8)):
            ask(least)
            ask(most)
            for number in (-1, 0, least - 1, most + 1, most + 2, 10 ** 30, -(10 ** 30)):
                with self.assertRaises(NoNumber):
                    ask(number)

    def test_what_is_no_number(self):
        for thing in ODD:
            for ask in (pairs_stack, row_stack, ring_stack):
                with self.assertRaises(NoNumber):
                    ask(thing)
            for asked in ((thing, 0), (thing, 1), (4, thing), (thing, thing), (thing, None), (None, thing)):
                with self.assertRaises(NoNumber):
                    full_stack(*asked)
        for asked in ((True, 0), (True, 1), (1, False), (1, True), (4, True), ("4", 2), (4, "2"), ((4,), 2), (4, [2])):
            with self.assertRaises(NoNumber):
                full_stack(*asked)


class TestTraded(unittest.TestCase):
    def test_told_out(self):
        self.assertIsNone(first_untraded(NOUGHT))
        self.assertIsNone(first_untraded(ALONE))
        self.assertIsNone(first_untraded(POINTS))
        self.assertIsNone(first_untraded(TRADED_ALONE))
        self.assertIsNone(first_untraded(BOTH))
        self.assertEqual(first_untraded(NEITHER), (0, 1, 0))
        self.assertEqual(first_untraded(PUSHED_ALONE), (2, 3, 0))
        self.assertEqual(first_untraded(NEITHER_BUT_LAID), (1, 2, 0))

    def test_by_the_words(self):
        for stack in STACKS:
            wrong = told_untraded(stack)
            self.assertEqual(first_untraded(stack), min(wrong) if wrong else None, stack)

    def test_all_seventy_and_some_less(self):
        self.assertIsNone(first_untraded(SEVENTY))
        for gone in (0, 35, 69):
            self.assertIsNone(first_untraded((8, 4, SEVENTY[2][:gone] + SEVENTY[2][gone + 1:])))
        less = (8, 4, tuple(face for face in SEVENTY[2] if face not in ((0, 1, 2, 3), (0, 1, 2, 4))))
        self.assertEqual(first_untraded(less), min(told_untraded(less)))


class TestPushed(unittest.TestCase):
    def test_told_out(self):
        self.assertIsNone(first_unpushed(NOUGHT))
        self.assertIsNone(first_unpushed(PUSHED_ALONE))
        self.assertIsNone(first_unpushed(BOTH))
        self.assertIsNone(first_unpushed((8, 2, ((0, 1),))))
        self.assertEqual(first_unpushed(ALONE), (0, 1, 0))
        self.assertEqual(first_unpushed(TRADED_ALONE), (0, 2, 1))
        self.assertEqual(first_unpushed(NEITHER_BUT_LAID), (2, 1, 0))

    def test_a_lesser_point_may_be_in_no_face(self):
        self.assertEqual(first_unpushed((2, 1, ((1,),))), (0, 1, 0))
        self.assertEqual(first_unpushed(POINTS), (1, 2, 1))

    def test_by_the_words(self):
        for stack in STACKS:
            wrong = told_unpushed(stack)
            self.assertEqual(first_unpushed(stack), min(wrong) if wrong else None, stack)

    def test_all_seventy_and_some_less(self):
        self.assertIsNone(first_unpushed(SEVENTY))
        self.assertIsNone(first_unpushed((8, 4, SEVENTY[2][:-1])))
        self.assertEqual(first_unpushed((8, 4, SEVENTY[2][1:])), (0, 4, 3))


class TestPlainOrder(unittest.TestCase):
    def test_told_out(self):
        self.assertEqual(plain_order(NOUGHT), (0,))
        self.assertEqual(plain_order(BOTH), tuple(range(10)))
        self.assertEqual(plain_order(TRADED_ALONE), (0, 1, 2, 3))
        self.assertEqual(plain_order(PUSHED_ALONE), (0, 1, 2, 3))
        self.assertIsNone(plain_order(NEITHER))
        self.assertIs(is_order(NEITHER_BUT_LAID, (0, 1, 2)), True)
        self.assertIsNone(plain_order(NEITHER_BUT_LAID))
        self.assertEqual(plain_order(SEVENTY), tuple(range(70)))
        for stack in (HINGED, PATH, STRIP, TAILED, APART):
            self.assertEqual(plain_order(stack), None if told_untraded(stack) else tuple(range(len(stack[2]))))

    def test_by_the_words(self):
        kinds = set()
        for stack in STACKS:
            traded, pushed = not told_untraded(stack), not told_unpushed(stack)
            rising = tuple(range(len(stack[2])))
            self.assertEqual(plain_order(stack), rising if traded or pushed else None, stack)
            kinds.add((traded, pushed, is_order(stack, rising)))
        self.assertEqual(kinds, {
            (True, True, True), (True, False, True), (False, True, True), (False, False, True), (False, False, False),
        })

    def test_each_told_stack(self):
        for stack in [full_stack(n, k) for n in range(1, 9) for k in range(min(n, 4) + 1)]:
            self.assertEqual(plain_order(stack), tuple(range(len(stack[2]))))
        for d in range(1, 5):
            self.assertEqual(plain_order(pairs_stack(d)), tuple(range(2 ** d)))


class TestNamedOrder(unittest.TestCase):
    def test_told_out(self):
        self.assertEqual(named_order(NOUGHT, (0,)), (0,))
        self.assertEqual(named_order(TRIANGLE, (0, 1, 2)), (0, 1, 2))
        self.assertEqual(named_order(TRIANGLE, (2, 1, 0)), (2, 1, 0))
        self.assertEqual(named_order(TRIANGLE, (1, 0, 2)), (0, 2, 1))
        self.assertIsNone(named_order(NEITHER, (0, 1, 2, 3)))
        self.assertIsNone(named_order(PUSHED_ALONE, (0, 1, 2, 3)))
        self.assertIsNone(named_order(NEITHER_BUT_LAID, (3, 1, 2, 0)))

    def test_names_are_told_of_points_not_places(self):
        # Point 0 is told as 1, 1 as 2, 2 as 0: the faces 01, 02, 12 are told as 12, 01, 02.
        self.assertEqual(named_order(TRIANGLE, (1, 2, 0)), (1, 2, 0))

    def test_all_names_of_small_stacks(self):
        for stack in SMALL:
            traded = not told_untraded(stack)
            for names in permutations(range(stack[0])):
                found = named_order(stack, names)
                if traded:
                    self.assertEqual(found, told_named(stack, names), (stack, names))
                    self.assertIs(is_order(stack, found), True)
                else:
                    self.assertIsNone(found)

    def test_some_names_of_others(self):
        for stack in STACKS[len(SMALL)::7] + [SEVENTY, pairs_stack(4), pairs_stack(3), (8, 4, SEVENTY[2][1:])]:
            traded = not told_untraded(stack)
            for names in some_names(stack[0]):
                found = named_order(stack, names)
                self.assertEqual(found, told_named(stack, names) if traded else None)
                if traded:
                    self.assertIs(is_order(stack, found), True)

    def test_what_is_no_names(self):
        for stack in (NOUGHT, TRIANGLE, NEITHER, BOTH, ALONE):
            rising = tuple(range(stack[0]))
            things = ODD + list(misshapen(rising)) + [thing for odd in ODD for thing in swapped(rising, odd)]
            things += [list(rising), rising + (stack[0],), rising[1:], rising[1:] + (stack[0],), (-1,) + rising[1:], ()]
            for thing in things:
                if type(thing) is not tuple or sorted(map(repr, thing)) != sorted(map(repr, rising)):
                    with self.assertRaises(NoNames):
                        named_order(stack, thing)

    def test_names_are_of_all_points_in_faces_or_not(self):
        stack = (4, 2, ((0, 1), (0, 2), (1, 2)))
        self.assertEqual(named_order(stack, (3, 2, 1, 0)), (2, 1, 0))
        for names in ((0, 1, 2), (2, 1, 0), (0, 1, 2, 4), (0, 1, 2, 2)):
            with self.assertRaises(NoNames):
                named_order(stack, names)


class TestRefused(unittest.TestCase):
    def test_stacks(self):
        asked = [
            first_untraded, first_unpushed, plain_order, lambda thing: named_order(thing, (0, 1, 2, 3)),
            lambda thing: named_order(thing, None),
        ]
        for thing in no_stacks():
            for ask in asked:
                with self.assertRaises(NoStack):
                    ask(thing)


if __name__ == "__main__":
    unittest.main()
