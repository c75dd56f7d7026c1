"""Stage 1: stacks, parts, sides, links (1.1 to 1.4)."""

import unittest
from itertools import combinations, permutations

from layfaces.errors import NoNumber, NoPart, NoStack
from layfaces.stacks import counts, is_part, is_stack, link, parts_of, sides, without
from samples import (
    ALONE, APART, EDGES, HINGED, NOUGHT, ODD, PATH, POINTS, SEVENTY, TAILED, TRIANGLE, full, misshapen, nested,
    no_stacks, one_of, small_stacks, swapped, told_parts, told_stack,
)

SMALL = small_stacks(4)


class TestIsStack(unittest.TestCase):
    def test_small_ones_and_edges_are_stacks(self):
        for stack in SMALL + EDGES:
            self.assertIs(is_stack(stack), True, stack)

    def test_bounds_of_n_and_k(self):
        for n in range(-2, 12):
            for k in range(-2, 8):
                faces = tuple(combinations(range(max(n, 0)), k)) if k >= 0 else ((),)
                wanted = 1 <= n <= 8 and 0 <= k <= 4 and k <= n
                with self.subTest(n=n, k=k):
                    self.assertIs(is_stack((n, k, faces)), wanted)
                    self.assertIs(is_stack((n, k, faces[:1])), wanted)

    def test_points_go_from_nought_to_n_less_one(self):
        self.assertIs(is_stack((3, 1, ((2,),))), True)
        self.assertIs(is_stack((3, 1, ((3,),))), False)
        self.assertIs(is_stack((3, 1, ((-1,),))), False)
        self.assertIs(is_stack((8, 2, ((6, 7),))), True)
        self.assertIs(is_stack((8, 2, ((7, 8),))), False)

    def test_one_to_seventy_faces(self):
        self.assertIs(is_stack((3, 2, ())), False)
        self.assertIs(is_stack((3, 0, ())), False)
        self.assertIs(is_stack(SEVENTY), True)
        self.assertEqual(len(SEVENTY[2]), 70)
        self.assertIs(is_stack((8, 4, SEVENTY[2] + ((4, 5, 6, 7),))), False)
        self.assertIs(is_stack((9, 4, tuple(combinations(range(9), 4)))), False)

    def test_where_k_is_nought_the_face_is_empty(self):
        self.assertIs(is_stack((2, 0, ((),))), True)
        self.assertIs(is_stack((2, 0, ((), ()))), False)
        self.assertIs(is_stack((2, 0, ((0,),))), False)
        self.assertIs(is_stack((2, 1, ((),))), False)

    def test_faces_rise(self):
        self.assertIs(is_stack((4, 2, ((1, 3), (0, 1)))), False)
        self.assertIs(is_stack((4, 2, ((0, 1), (0, 1)))), False)
        self.assertIs(is_stack((4, 2, ((1, 0),))), False)
        self.assertIs(is_stack((4, 2, ((1, 1),))), False)
        self.assertIs(is_stack((4, 2, ((0, 1), (0, 1, 2)))), False)

    def test_each_row_of_faces(self):
        faces = tuple(combinations(range(4), 2))[:4]
        for row in permutations(faces):
            self.assertIs(is_stack((4, 2, row)), row == faces)

    def test_truths_are_no_numbers(self):
        self.assertIs(is_stack((True, 0, ((),))), False)
        self.assertIs(is_stack((1, False, ((),))), False)
        self.assertIs(is_stack((1, True, ((0,),))), False)
        self.assertIs(is_stack((1, 1, ((False,),))), False)
        self.assertIs(is_stack((2, 2, ((0, True),))), False)

    def test_lists_are_no_tuples(self):
        self.assertIs(is_stack([3, 2, ((0, 1),)]), False)
        self.assertIs(is_stack((3, 2, [(0, 1)])), False)
        self.assertIs(is_stack((3, 2, ([0, 1],))), False)

    def test_anything_at_each_place(self):
        for stack in (NOUGHT, POINTS, TRIANGLE, HINGED, ALONE):
            for odd in ODD:
                for thing in swapped(stack, odd):
                    self.assertIs(is_stack(thing), told_stack(thing), thing)

    def test_misshapen_ones(self):
        for stack in (NOUGHT, POINTS, TRIANGLE, PATH, HINGED, ALONE):
            for thing in misshapen(stack):
                self.assertIs(is_stack(thing), told_stack(thing), thing)

    def test_odd_things_deeper_than_told(self):
        for wrap in (lambda thing: (thing,), lambda thing: [thing], lambda thing: (3, 2, (thing,))):
            self.assertIs(is_stack(nested(wrap, 25)), False)


class TestParts(unittest.TestCase):
    def test_parts_are_told_from_other_rows_of_points(self):
        for stack in SMALL:
            parts = told_parts(stack)
            for many in range(4):
                for points in permutations(range(-1, stack[0] + 1), many):
                    self.assertIs(is_part(stack, points), points in parts, (stack, points))

    def test_all_points_are_in_one_face(self):
        self.assertIs(is_part(TRIANGLE, (0, 1)), True)
        self.assertIs(is_part(TRIANGLE, (0, 1, 2)), False)
        self.assertIs(is_part(APART, (1, 2)), False)

    def test_points_in_no_face_are_no_part(self):
        self.assertIs(is_part(TAILED, (3,)), False)
        self.assertIs(is_part(TAILED, (5,)), False)
        self.assertIs(is_part(TAILED, (4,)), True)

    def test_empty_part_and_whole_face(self):
        for stack in SMALL + EDGES:
            self.assertIs(is_part(stack, ()), True)
            self.assertIs(is_part(stack, stack[2][-1]), True)

    def test_of_anything(self):
        for stack in EDGES:
            parts = told_parts(stack)
            for odd in ODD:
                for thing in swapped(stack[2][0], odd):
                    self.assertIs(is_part(stack, thing), one_of(thing, parts), (stack, thing))
            for thing in misshapen(stack[2][0]):
                self.assertIs(is_part(stack, thing), one_of(thing, parts), (stack, thing))

    def test_parts_of_are_all_parts_of_so_many(self):
        for stack in SMALL + EDGES:
            parts = told_parts(stack)
            for many in range(stack[1] + 1):
                wanted = [part for part in parts if len(part) == many]
                self.assertEqual(parts_of(stack, many), wanted)

    def test_parts_of_told_out(self):
        self.assertEqual(parts_of(PATH, 0), [()])
        self.assertEqual(parts_of(PATH, 1), [(0,), (1,), (3,)])
        self.assertEqual(parts_of(PATH, 2), [(0, 1), (1, 3)])
        self.assertEqual(parts_of(NOUGHT, 0), [()])

    def test_parts_of_refuses_other_numbers(self):
        for stack in EDGES:
            for many in (-1, stack[1] + 1, True, False, None, "0", (0,), [0], 10 ** 30):
                with self.assertRaises(NoNumber):
                    parts_of(stack, many)

    def test_counts(self):
        self.assertEqual(counts(NOUGHT), (1,))
        self.assertEqual(counts(POINTS), (1, 3))
        self.assertEqual(counts(PATH), (1, 3, 2))
        self.assertEqual(counts(HINGED), (1, 5, 6, 2))
        self.assertEqual(counts(SEVENTY), (1, 8, 28, 56, 70))
        for stack in SMALL:
            lengths = [len(part) for part in told_parts(stack)]
            self.assertEqual(counts(stack), tuple(lengths.count(many) for many in range(stack[1] + 1)))


class TestSides(unittest.TestCase):
    def test_sides_told_out(self):
        self.assertEqual(sides(NOUGHT, 0), [])
        self.assertEqual(sides(POINTS, 2), [()])
        self.assertEqual(sides(PATH, 1), [(1,), (3,)])
        self.assertEqual(sides(HINGED, 1), [(0, 3), (0, 4), (3, 4)])

    def test_each_face_has_k_sides(self):
        for stack in SMALL + EDGES:
            for number, face in enumerate(stack[2]):
                told = sides(stack, number)
                self.assertEqual(len(told), stack[1])
                if stack[1]:
                    self.assertEqual(told, sorted(combinations(face, stack[1] - 1)))

    def test_refuses_what_is_no_number_of_a_face(self):
        for stack in EDGES:
            for number in (-1, len(stack[2]), True, False, None, "0", (0,), [], {}, 10 ** 30):
                with self.assertRaises(NoNumber):
                    sides(stack, number)


class TestLink(unittest.TestCase):
    def test_told_out(self):
        self.assertEqual(link(PATH, (1,)), (4, 1, ((0,), (3,))))
        self.assertEqual(link(PATH, (1, 3)), (4, 0, ((),)))
        self.assertEqual(link(PATH, ()), PATH)
        self.assertEqual(link(HINGED, (0,)), (5, 2, ((1, 2), (3, 4))))
        self.assertEqual(link(SEVENTY, (2, 5)), (8, 2, tuple(combinations((0, 1, 3, 4, 6, 7), 2))))
        self.assertEqual(link(NOUGHT, ()), NOUGHT)

    def test_link_is_a_stack_whose_parts_follow(self):
        for stack in SMALL + [HINGED, TAILED, full(5, 3), full(6, 4)]:
            parts = told_parts(stack)
            for part in parts:
                told = link(stack, part)
                self.assertTrue(told_stack(told), told)
                self.assertEqual(told[:2], (stack[0], stack[1] - len(part)))
                wanted = [tuple(sorted(set(other) - set(part))) for other in parts if set(part) <= set(other)]
                self.assertEqual(told_parts(told), sorted(wanted))
                for many in range(told[1] + 1):
                    self.assertEqual(parts_of(told, many), sorted(each for each in wanted if len(each) == many))

    def test_refuses_what_is_no_part(self):
        for stack in EDGES:
            parts = told_parts(stack)
            for odd in ODD:
                if not one_of(odd, parts):
                    with self.assertRaises(NoPart):
                        link(stack, odd)
        for stack, part in [(TRIANGLE, (0, 1, 2)), (APART, (1, 2)), (TAILED, (3,)), (PATH, (4,)), (PATH, (1, 0))]:
            with self.assertRaises(NoPart):
                link(stack, part)


class TestWithout(unittest.TestCase):
    def test_told_out(self):
        self.assertEqual(without(PATH, 0), (4, 2, ((1, 3),)))
        self.assertEqual(without(PATH, 2), PATH)
        self.assertEqual(without(NOUGHT, 0), NOUGHT)
        self.assertEqual(without(POINTS, 2), (5, 1, ((0,), (4,))))
        self.assertEqual(len(without(SEVENTY, 7)[2]), 35)

    def test_all_points(self):
        for stack in SMALL + EDGES:
            for point in range(stack[0]):
                rest = tuple(face for face in stack[2] if point not in face)
                if rest:
                    self.assertEqual(without(stack, point), (stack[0], stack[1], rest))
                    self.assertTrue(is_stack(without(stack, point)))
                else:
                    with self.assertRaises(NoNumber):
                        without(stack, point)

    def test_refuses_where_each_face_has_it(self):
        for stack, point in [(PATH, 1), (HINGED, 0), (ALONE, 7), ((1, 1, ((0,),)), 0)]:
            with self.assertRaises(NoNumber):
                without(stack, point)

    def test_refuses_what_is_no_point(self):
        for stack in EDGES:
            for point in (-1, stack[0], True, False, None, "0", (0,), [0], {0: 0}, 10 ** 30):
                with self.assertRaises(NoNumber):
                    without(stack, point)


class TestNoStack(unittest.TestCase):
    def test_each_refuses_what_is_none(self):
        asked = [
            lambda thing: is_part(thing, ()), lambda thing: parts_of(thing, 0), counts,
            lambda thing: sides(thing, 0), lambda thing: link(thing, ()), lambda thing: without(thing, 3),
        ]
        for thing in no_stacks():
            for ask in asked:
                with self.assertRaises(NoStack):
                    ask(thing)


if __name__ == "__main__":
    unittest.main()
