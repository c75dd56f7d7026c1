"""Stage 6: rims, thick parts, shut stacks and orders turned back (6.1 to 6.3)."""

import unittest
from itertools import combinations, permutations

from layfaces.counted import told
from layfaces.errors import NoNumber, NoOrder, NoRim, NoStack
from layfaces.kinds import full_stack, pairs_stack, plain_order, ring_stack, row_stack
from layfaces.laying import brings, is_order
from layfaces.orders import first_order
from layfaces.rims import is_shut, rim, rim_stack, stays_order, thick, turned_back
from layfaces.stacks import is_stack, link, without
from samples import (
    ALONE, APART, EDGES, FOURTEEN, HINGED, NINE, NOUGHT, ODD, PATH, PINCHED, POINTS, RING_AND_ONE, SEVENTY, SHUT,
    STRIP, STUCK, TAILED, TEN, THREE_APART, TRIANGLE, TWISTED, TWISTED_TEN, full, misshapen, no_stacks, small_stacks,
    swapped, told_first_wrong, told_orders,
)

SMALL = small_stacks(4)
STACKS = SMALL + EDGES + SHUT + [
    THREE_APART, RING_AND_ONE, PINCHED, TWISTED, STUCK, NINE, TEN, FOURTEEN, (8, 4, SEVENTY[2][::3]),
    (5, 3, full(5, 3)[2][::2]), (5, 4, full(5, 4)[2][1:]), (6, 2, full(6, 2)[2][::2]),
]
NO_POINTS = [NOUGHT, (8, 0, ((),)), (4, 0, ((),))]
BOOK = (5, 3, ((0, 1, 2), (0, 1, 3), (0, 1, 4)))


def told_held(stack):
    """Of each part of k - 1 points in how many faces it is."""
    held = {}
    for face in stack[2]:
        for part in combinations(face, stack[1] - 1):
            held[part] = held.get(part, 0) + 1
    return held


class TestRim(unittest.TestCase):
    def test_told_out(self):
        self.assertEqual(rim(PATH), [(0,), (3,)])
        self.assertEqual(rim(TRIANGLE), [])
        self.assertEqual(rim(TAILED), [(4,)])
        self.assertEqual(rim(HINGED), [(0, 1), (0, 2), (0, 3), (0, 4), (1, 2), (3, 4)])
        self.assertEqual(rim(ALONE), [(1, 3, 5), (1, 3, 7), (1, 5, 7), (3, 5, 7)])
        self.assertEqual(rim(BOOK), [(0, 2), (0, 3), (0, 4), (1, 2), (1, 3), (1, 4)])
        self.assertEqual(rim((1, 1, ((0,),))), [()])
        self.assertEqual(rim((2, 1, ((0,), (1,)))), [])
        self.assertEqual(rim(POINTS), [])

    def test_thick_told_out(self):
        self.assertEqual(thick(TAILED), [(2,)])
        self.assertEqual(thick(TRIANGLE), [])
        self.assertEqual(thick(POINTS), [()])
        self.assertEqual(thick((2, 1, ((0,), (1,)))), [])
        self.assertEqual(thick((1, 1, ((0,),))), [])
        self.assertEqual(thick(BOOK), [(0, 1)])
        self.assertEqual(thick(SEVENTY), list(combinations(range(8), 3)))

    def test_by_the_words(self):
        for stack in STACKS:
            if stack[1] > 0:
                held = told_held(stack)
                self.assertEqual(rim(stack), sorted(part for part in held if held[part] == 1), stack)
                self.assertEqual(thick(stack), sorted(part for part in held if held[part] >= 3), stack)

    def test_faces_without_points(self):
        for stack in NO_POINTS:
            for ask in (rim, thick, rim_stack):
                with self.assertRaises(NoNumber):
                    ask(stack)


class TestShut(unittest.TestCase):
    def test_shut_ones(self):
        for stack in SHUT:
            self.assertIs(is_shut(stack), True, stack)
        for stack in [ring_stack(n) for n in range(3, 9)] + [pairs_stack(d) for d in range(1, 5)]:
            self.assertIs(is_shut(stack), True, stack)
        for k in range(1, 5):
            self.assertIs(is_shut(full_stack(k + 1, k)), True)

    def test_others(self):
        for stack in NO_POINTS + [row_stack(n) for n in range(2, 9)] + [POINTS, ALONE, TAILED, HINGED, BOOK, SEVENTY]:
            self.assertIs(is_shut(stack), False, stack)
        for stack in SHUT:
            if stack[1] > 1:
                self.assertIs(is_shut((stack[0], stack[1], stack[2][1:])), False, stack)

    def test_by_the_words(self):
        for stack in STACKS:
            wanted = stack[1] > 0 and set(told_held(stack).values()) == {2}
            self.assertIs(is_shut(stack), wanted, stack)

    def test_of_shut_stacks_each_order_stays_one(self):
        asked = 0
        for stack in SHUT:
            for order in told_orders(stack, 40):
                asked += 1
                self.assertIs(stays_order(stack, order), True)
                back = brings(stack, turned_back(stack, order))[::-1]
                for number, forth, other in zip(order, brings(stack, order), back):
                    self.assertEqual(sorted(forth + other), list(stack[2][number]))
        self.assertGreater(asked, 200)

    def test_of_shut_stacks_with_an_order_what_is_told_is_the_same_from_behind(self):
        for stack in SHUT:
            orders = told_orders(stack, 40)
            if orders:
                self.assertEqual(told(stack), told(stack)[::-1])
            for order in orders:
                found = [len(points) for points in brings(stack, order)]
                self.assertEqual([at for at, many in enumerate(found) if many == 0], [0])
                self.assertEqual([at for at, many in enumerate(found) if many == stack[1]], [len(found) - 1])


class TestTurnedBack(unittest.TestCase):
    def test_told_out(self):
        self.assertEqual(turned_back(NOUGHT, (0,)), (0,))
        self.assertEqual(turned_back(TAILED, (0, 1, 2, 3)), (3, 2, 1, 0))
        self.assertEqual(turned_back(TRIANGLE, (1, 2, 0)), (0, 2, 1))

    def test_stays_told_out(self):
        self.assertIs(stays_order(NOUGHT, (0,)), True)
        self.assertIs(stays_order(ALONE, (0,)), True)
        self.assertIs(stays_order(STRIP, (0, 1, 2, 3)), True)
        self.assertIs(stays_order(TAILED, (0, 1, 2, 3)), True)
        star = (5, 2, ((0, 1), (0, 2), (1, 3), (2, 4)))
        self.assertIs(stays_order(star, (0, 1, 2, 3)), False)
        self.assertIs(stays_order(star, (2, 0, 1, 3)), True)

    def test_all_rows_of_small_stacks(self):
        found = set()
        for stack in SMALL:
            if len(stack[2]) < 5:
                for row in permutations(range(len(stack[2]))):
                    if told_first_wrong(stack, row) is None:
                        self.assertEqual(turned_back(stack, row), row[::-1])
                        stays = told_first_wrong(stack, row[::-1]) is None
                        self.assertIs(stays_order(stack, row), stays)
                        found.add(stays)
                    else:
                        for ask in (turned_back, stays_order):
                            with self.assertRaises(NoOrder):
                                ask(stack, row)
        self.assertEqual(found, {True, False})

    def test_some_orders_of_others(self):
        for stack in STACKS[len(SMALL):]:
            if len(stack[2]) < 15:
                for order in told_orders(stack, 20):
                    back = turned_back(stack, order)
                    self.assertEqual(back, tuple(reversed(order)))
                    self.assertIs(stays_order(stack, order), told_first_wrong(stack, back) is None)

    def test_orders_of_seventy_faces(self):
        order = plain_order(SEVENTY)
        self.assertEqual(turned_back(SEVENTY, order), tuple(range(69, -1, -1)))
        self.assertIs(stays_order(SEVENTY, order), True)

    def test_what_is_no_order(self):
        for stack, order in ((TRIANGLE, (0, 1, 2)), (TAILED, (0, 1, 2, 3)), (NOUGHT, (0,))):
            things = ODD + list(misshapen(order)) + [thing for odd in ODD for thing in swapped(order, odd)]
            things += [(), order[::-1] + (len(order),), list(order), {each: each for each in order}]
            for thing in things:
                if not is_order(stack, thing):
                    for ask in (turned_back, stays_order):
                        with self.assertRaises(NoOrder):
                            ask(stack, thing)
        for stack in (APART, THREE_APART, HINGED):
            with self.assertRaises(NoOrder):
                turned_back(stack, tuple(range(len(stack[2]))))


class TestRimStack(unittest.TestCase):
    def test_told_out(self):
        self.assertEqual(rim_stack(PATH), (4, 1, ((0,), (3,))))
        self.assertEqual(rim_stack(TAILED), (6, 1, ((4,),)))
        self.assertEqual(rim_stack((3, 1, ((2,),))), (3, 0, ((),)))
        self.assertEqual(rim_stack(ALONE), (8, 3, ((1, 3, 5), (1, 3, 7), (1, 5, 7), (3, 5, 7))))

    def test_by_the_words(self):
        for stack in STACKS:
            if stack[1] > 0:
                faces = tuple(sorted(part for part, many in told_held(stack).items() if many == 1))
                if faces:
                    self.assertEqual(rim_stack(stack), (stack[0], stack[1] - 1, faces))
                    self.assertIs(is_stack(rim_stack(stack)), True)
                else:
                    with self.assertRaises(NoRim):
                        rim_stack(stack)

    def test_no_rim(self):
        for stack in SHUT + [POINTS, SEVENTY, full(8, 1), RING_AND_ONE]:
            if stack != RING_AND_ONE:
                with self.assertRaises(NoRim):
                    rim_stack(stack)
        self.assertEqual(rim_stack(RING_AND_ONE), (5, 1, ((3,), (4,))))

    def test_where_the_rim_is_shut(self):
        asked = 0
        for stack in STACKS:
            if len(stack[2]) < 10 and stack[1] > 1 and not thick(stack) and rim(stack):
                if first_order(stack) is not None:
                    asked += 1
                    self.assertIs(is_shut(rim_stack(stack)), True, stack)
        self.assertGreater(asked, 30)
        # With thick parts, and with k of 1, it need not be.
        self.assertIs(is_shut(rim_stack(BOOK)), False)
        self.assertIs(is_shut(rim_stack((3, 1, ((2,),)))), False)

    def test_stacks_told_elsewhere(self):
        self.assertEqual(rim(link(TAILED, (2,))), [])
        self.assertEqual(thick(link(TAILED, (2,))), [()])
        self.assertEqual(rim(without(TAILED, 4)), [])
        self.assertIs(is_shut(without(TAILED, 4)), True)
        self.assertEqual(rim(link(PATH, (0, 1))[:1] + (1, ((1,),))), [()])
        with self.assertRaises(NoNumber):
            rim(link(PATH, (0, 1)))
        self.assertEqual(first_order(rim_stack(ALONE)), (0, 1, 2, 3))
        self.assertEqual(link(rim_stack(ALONE), (1, 3)), (8, 1, ((5,), (7,))))


class TestRefused(unittest.TestCase):
    def test_stacks(self):
        asked = [
            rim, thick, is_shut, rim_stack, lambda thing: turned_back(thing, (0, 1)),
            lambda thing: stays_order(thing, None), lambda thing: turned_back(thing, []),
        ]
        for thing in no_stacks():
            for ask in asked:
                with self.assertRaises(NoStack):
                    ask(thing)


if __name__ == "__main__":
    unittest.main()
