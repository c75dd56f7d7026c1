"""Stage 8: stacks named otherwise, cones, stacks joined and put together (8.1 to 8.4)."""

import unittest
from itertools import permutations

from layfaces.counted import told
from layfaces.errors import NoNames, NoOrder, NoStack, TooGreat
from layfaces.joins import cone, joined, joined_order, named, named_back, put_on, shared_parts
from layfaces.kinds import full_stack, pairs_stack, plain_order, ring_stack, row_stack
from layfaces.laying import brings, is_order
from layfaces.orders import many_orders
from layfaces.rims import is_shut, rim_stack
from layfaces.stacks import is_stack, link, without
from samples import (
    ALONE, APART, APART_FOUR, EDGES, FOURTEEN, HINGED, NINE, NOUGHT, ODD, PATH, PINCHED, POINTS, RING_AND_ONE,
    SEVENTY, SHUT, STRIP, STUCK, TAILED, TEN, TRIANGLE, TWISTED, TWISTED_TEN, full, misshapen, no_stacks,
    small_stacks, swapped, told_first_wrong, told_orders, told_parts, told_stack,
)

TINY = small_stacks(3)
SMALL = small_stacks(4)
OTHERS = EDGES + SHUT + [RING_AND_ONE, PINCHED, TWISTED, STUCK, NINE, TEN, FOURTEEN, TWISTED_TEN]
STACKS = SMALL + OTHERS


def told_named(stack, names):
    return (stack[0], stack[1], tuple(sorted(tuple(sorted(names[point] for point in face)) for face in stack[2])))


def told_joined(one, other):
    """The words of 8.3, one for one."""
    faces = [face + tuple(point + one[0] for point in more) for face in one[2] for more in other[2]]
    return (one[0] + other[0], one[1] + other[1], tuple(sorted(faces)))


def some_names(n):
    rising = tuple(range(n))
    half = n // 2
    return [rising, rising[::-1], rising[1:] + rising[:1], rising[::2] + rising[1::2], rising[half:] + rising[:half]]


def times(one, other):
    """Two sums of powers, multiplied."""
    found = [0] * (len(one) + len(other) - 1)
    for i, number in enumerate(one):
        for j, more in enumerate(other):
            found[i + j] += number * more
    return tuple(found)


class Asking(unittest.TestCase):
    def too_great(self, many, most, ask, *asked):
        with self.assertRaises(TooGreat) as caught:
            ask(*asked)
        self.assertEqual((caught.exception.many, caught.exception.most), (many, most))


class TestNamed(unittest.TestCase):
    def test_told_out(self):
        # Point 0 is 1, 1 is 2, 2 is 0, 3 stays: 01 and 13 are 12 and 23.
        self.assertEqual(named(PATH, (1, 2, 0, 3)), (4, 2, ((1, 2), (2, 3))))
        self.assertEqual(named_back(PATH, (1, 2, 0, 3)), (2, 0, 1, 3))
        self.assertEqual(named(NOUGHT, (0,)), NOUGHT)
        self.assertEqual(named_back(NOUGHT, (0,)), (0,))
        self.assertEqual(named(ALONE, (7, 6, 5, 4, 3, 2, 1, 0)), (8, 4, ((0, 2, 4, 6),)))
        self.assertEqual(named(POINTS, (4, 3, 2, 1, 0)), POINTS)

    def test_all_names_of_small_stacks(self):
        for stack in SMALL:
            for names in permutations(range(stack[0])):
                found = named(stack, names)
                self.assertEqual(found, told_named(stack, names))
                back = named_back(stack, names)
                self.assertEqual([back[name] for name in names], list(range(stack[0])))
                self.assertEqual(named(found, back), stack)
                self.assertEqual(named_back(stack, back), names)

    def test_names_that_change_nothing_and_names_from_behind(self):
        for stack in STACKS:
            rising = tuple(range(stack[0]))
            self.assertEqual(named(stack, rising), stack)
            self.assertEqual(named_back(stack, rising), rising)
            self.assertEqual(named(named(stack, rising[::-1]), rising[::-1]), stack)
            self.assertEqual(named_back(stack, rising[::-1]), rising[::-1])

    def test_others(self):
        for stack in OTHERS:
            for names in some_names(stack[0]):
                found = named(stack, names)
                self.assertEqual(found, told_named(stack, names))
                self.assertIs(is_stack(found), True)
                self.assertEqual(named(found, named_back(stack, names)), stack)
                self.assertEqual(told(found), told(stack))
                self.assertEqual(is_shut(found), is_shut(stack))

    def test_what_is_no_names(self):
        for stack in (NOUGHT, PATH, TRIANGLE, ALONE):
            rising = tuple(range(stack[0]))
            things = ODD + list(misshapen(rising)) + [thing for odd in ODD for thing in swapped(rising, odd)]
            things += [list(rising), rising + (stack[0],), rising[1:], rising[1:] + (stack[0],), (-1,) + rising[1:], ()]
            for thing in things:
                if type(thing) is not tuple or sorted(map(repr, thing)) != sorted(map(repr, rising)):
                    for ask in (named, named_back):
                        with self.assertRaises(NoNames):
                            ask(stack, thing)


class TestCone(Asking):
    def test_told_out(self):
        self.assertEqual(cone(PATH), (5, 3, ((0, 1, 4), (1, 3, 4))))
        self.assertEqual(cone(NOUGHT), (2, 1, ((1,),)))
        self.assertEqual(cone((7, 0, ((),))), (8, 1, ((7,),)))
        self.assertEqual(cone((3, 3, ((0, 1, 2),))), (4, 4, ((0, 1, 2, 3),)))

    def test_by_the_words(self):
        for stack in STACKS:
            n, k, faces = stack
            if n < 8 and k < 4:
                found = cone(stack)
                self.assertEqual(found, (n + 1, k + 1, tuple(face + (n,) for face in faces)))
                self.assertTrue(told_stack(found))
                self.assertEqual(link(found, (n,)), (n + 1, k, faces))
                self.assertEqual(told(found), told(stack) + (0,))

    def test_the_same_orders_and_each_brings_the_same(self):
        asked = 0
        for stack in STACKS:
            if stack[0] < 8 and stack[1] < 4 and len(stack[2]) < 10:
                self.assertEqual(many_orders(cone(stack)), many_orders(stack))
                for order in told_orders(stack, 6):
                    asked += 1
                    self.assertIsNone(told_first_wrong(cone(stack), order))
                    self.assertEqual(brings(cone(stack), order), brings(stack, order))
        self.assertGreater(asked, 200)

    def test_too_great(self):
        self.too_great(9, 8, cone, (8, 0, ((),)))
        self.too_great(9, 8, cone, full(8, 3))
        self.too_great(9, 8, cone, SEVENTY)
        self.too_great(9, 8, cone, ALONE)
        self.too_great(5, 4, cone, full(7, 4))
        self.too_great(5, 4, cone, full(4, 4))
        self.assertEqual(cone(full(7, 3))[:2], (8, 4))
        for n in range(1, 9):
            for k in range(min(n, 4) + 1):
                if n == 8:
                    self.too_great(9, 8, cone, full(n, k))
                elif k == 4:
                    self.too_great(5, 4, cone, full(n, k))
                else:
                    self.assertEqual(cone(full(n, k))[:2], (n + 1, k + 1))


class TestJoined(Asking):
    def test_told_out(self):
        self.assertEqual(joined(PATH, (2, 1, ((0,), (1,)))), (
            6, 3, ((0, 1, 4), (0, 1, 5), (1, 3, 4), (1, 3, 5)),
        ))
        self.assertEqual(joined(NOUGHT, NOUGHT), (2, 0, ((),)))
        self.assertEqual(joined(NOUGHT, PATH), (5, 2, ((1, 2), (2, 4))))
        self.assertEqual(joined(PATH, NOUGHT), (5, 2, ((0, 1), (1, 3))))
        self.assertEqual(joined((2, 1, ((0,), (1,))), (2, 1, ((0,), (1,)))), pairs_stack(2))

    def test_by_the_words(self):
        for one in TINY + [PATH, APART, HINGED, POINTS, full(4, 4)]:
            for other in TINY[::2] + [PATH, (3, 0, ((),)), (4, 0, ((),))]:
                if one[0] + other[0] <= 8 and one[1] + other[1] <= 4:
                    found = joined(one, other)
                    self.assertEqual(found, told_joined(one, other))
                    self.assertTrue(told_stack(found))
                    self.assertEqual(told(found), times(told(one), told(other)))

    def test_at_the_bounds(self):
        self.assertEqual(joined(full(4, 2), full(4, 2))[:2], (8, 4))
        self.assertEqual(len(joined(full(4, 2), full(4, 2))[2]), 36)
        self.assertEqual(joined(full(7, 4), NOUGHT), (8, 4, full(7, 4)[2]))
        self.assertEqual(joined(full(4, 4), (4, 0, ((),))), (8, 4, ((0, 1, 2, 3),)))
        self.assertEqual(len(joined(full(5, 2), full(3, 2))[2]), 30)

    def test_too_great(self):
        self.too_great(9, 8, joined, full(4, 2), full(5, 2))
        self.too_great(9, 8, joined, full(8, 4), NOUGHT)
        self.too_great(9, 8, joined, NOUGHT, SEVENTY)
        self.too_great(16, 8, joined, SEVENTY, SEVENTY)
        self.too_great(9, 8, joined, full(5, 3), full(4, 2))
        self.too_great(5, 4, joined, full(4, 3), full(4, 2))
        self.too_great(8, 4, joined, full(4, 4), full(4, 4))
        self.too_great(5, 4, joined, full(4, 4), full(1, 1))
        for n in range(1, 9):
            for m in range(1, 9):
                for k in range(min(n, 4) + 1):
                    for more in range(min(m, 4) + 1):
                        asked = ((n, k, (tuple(range(k)),)), (m, more, (tuple(range(more)),)))
                        if n + m > 8:
                            self.too_great(n + m, 8, joined, *asked)
                        elif k + more > 4:
                            self.too_great(k + more, 4, joined, *asked)
                        else:
                            self.assertEqual(joined(*asked)[:2], (n + m, k + more))


class TestJoinedOrder(Asking):
    def test_told_out(self):
        two = (2, 1, ((0,), (1,)))
        self.assertEqual(joined_order(PATH, two, (1, 0), (0, 1)), (2, 3, 0, 1))
        self.assertEqual(joined_order(PATH, two, (1, 0), (1, 0)), (3, 2, 1, 0))
        self.assertEqual(joined_order(two, TRIANGLE, (0, 1), (2, 0, 1)), (2, 0, 1, 5, 3, 4))
        self.assertEqual(joined_order(NOUGHT, NOUGHT, (0,), (0,)), (0,))

    def test_each_brings_what_both_bring(self):
        asked = 0
        for one in TINY + [PATH, TAILED, POINTS, full(4, 3)]:
            for other in TINY[::3] + [PATH, TRIANGLE]:
                if one[0] + other[0] <= 8 and one[1] + other[1] <= 4:
                    for order in told_orders(one, 60)[::9]:
                        for another in told_orders(other, 60)[::4]:
                            asked += 1
                            self.one_order(one, other, order, another)
        self.assertGreater(asked, 300)

    def one_order(self, one, other, order, another):
        both = joined(one, other)
        found = joined_order(one, other, order, another)
        wanted = [
            one[2][number] + tuple(point + one[0] for point in other[2][more]) for number in order for more in another
        ]
        self.assertEqual([both[2][number] for number in found], wanted)
        self.assertIsNone(told_first_wrong(both, found))
        self.assertEqual(brings(both, found), [
            left + tuple(point + one[0] for point in right)
            for left in brings(one, order) for right in brings(other, another)
        ])

    def test_great_ones(self):
        one, other = full(4, 2), full(4, 2)
        order = joined_order(one, other, plain_order(one), plain_order(other))
        self.assertEqual(order, tuple(range(36)))
        self.assertIs(is_order(joined(one, other), order), True)

    def test_what_is_no_order(self):
        things = ODD + [(0, 1), (1, 0), [0, 1, 2], (0, 1, 2, 3), (0, 1, 1), (False, 1, 2), ()]
        for thing in things:
            with self.assertRaises(NoOrder):
                joined_order(TRIANGLE, TRIANGLE, thing, (0, 1, 2))
            with self.assertRaises(NoOrder):
                joined_order(TRIANGLE, TRIANGLE, (0, 1, 2), thing)
        for asked in ((APART, PATH, (0, 1), (0, 1)), (PATH, APART, (0, 1), (0, 1))):
            with self.assertRaises(NoOrder):
                joined_order(*asked)

    def test_no_order_comes_ahead_of_too_great(self):
        for asked in (
            (SEVENTY, PATH, (0,), (0, 1)), (PATH, SEVENTY, (0, 1), (0,)), (APART_FOUR, APART_FOUR, (0, 1), (0, 1)),
        ):
            with self.assertRaises(NoOrder):
                joined_order(*asked)
        self.too_great(12, 8, joined_order, SEVENTY, PATH, tuple(range(70)), (0, 1))
        self.too_great(9, 8, joined_order, full(4, 3), full(5, 3), (0, 1, 2, 3), tuple(range(10)))
        self.too_great(6, 4, joined_order, full(4, 3), full(4, 3), (0, 1, 2, 3), (3, 2, 1, 0))
        self.too_great(5, 4, joined_order, full(3, 3), full(5, 2), (0,), tuple(range(10)))


class TestPutOn(unittest.TestCase):
    def test_told_out(self):
        self.assertEqual(put_on(PATH, APART), (4, 2, ((0, 1), (1, 3), (2, 3))))
        self.assertEqual(put_on(APART, PATH), (4, 2, ((0, 1), (1, 3), (2, 3))))
        self.assertEqual(put_on(NOUGHT, NOUGHT), NOUGHT)
        self.assertEqual(shared_parts(PATH, APART), [(), (0,), (0, 1), (1,), (3,)])
        self.assertEqual(shared_parts((4, 2, ((0, 1),)), (4, 2, ((2, 3),))), [()])
        self.assertEqual(shared_parts(NOUGHT, NOUGHT), [()])

    def test_by_the_words(self):
        for one in STACKS[::3] + OTHERS:
            for other in STACKS[::5] + OTHERS:
                if one[:2] == other[:2]:
                    found = put_on(one, other)
                    self.assertEqual(found, (one[0], one[1], tuple(sorted(set(one[2]) | set(other[2])))))
                    self.assertIs(is_stack(found), True)
                    self.assertEqual(shared_parts(one, other), sorted(set(told_parts(one)) & set(told_parts(other))))

    def test_a_stack_with_itself(self):
        for stack in STACKS:
            self.assertEqual(put_on(stack, stack), stack)
            self.assertEqual(shared_parts(stack, stack), told_parts(stack))

    def test_halves_of_all_faces(self):
        self.assertEqual(put_on((8, 4, SEVENTY[2][:35]), (8, 4, SEVENTY[2][35:])), SEVENTY)
        self.assertEqual(put_on((8, 4, SEVENTY[2][::2]), (8, 4, SEVENTY[2][1::2])), SEVENTY)

    def test_another_n_or_k(self):
        for ask in (put_on, shared_parts):
            for asked in (
                (PATH, TRIANGLE), (TRIANGLE, PATH), (PATH, (4, 1, ((0,),))), (NOUGHT, (2, 0, ((),))),
                (SEVENTY, full(8, 3)), (full(7, 4), SEVENTY), (STRIP, HINGED),
            ):
                with self.assertRaises(NoStack):
                    ask(*asked)
        for one in SMALL[::11]:
            for other in SMALL[::7]:
                if one[:2] != other[:2]:
                    with self.assertRaises(NoStack):
                        put_on(one, other)


class TestRefused(unittest.TestCase):
    def test_stacks(self):
        two = (2, 1, ((0,), (1,)))
        asked = [
            cone, lambda thing: named(thing, (0, 1, 2, 3)), lambda thing: named(thing, None),
            lambda thing: named_back(thing, (0, 1, 2, 3)), lambda thing: named_back(thing, 3),
            lambda thing: joined(thing, two), lambda thing: joined(two, thing), lambda thing: joined(thing, SEVENTY),
            lambda thing: joined(SEVENTY, thing), lambda thing: joined(thing, thing),
            lambda thing: joined_order(thing, two, (0, 1), (0, 1)),
            lambda thing: joined_order(two, thing, (0, 1), (0, 1)),
            lambda thing: joined_order(two, thing, None, None), lambda thing: put_on(thing, PATH),
            lambda thing: put_on(PATH, thing), lambda thing: put_on(thing, thing), lambda thing: put_on(thing, two),
            lambda thing: shared_parts(thing, PATH), lambda thing: shared_parts(PATH, thing),
        ]
        for thing in no_stacks():
            for ask in asked:
                with self.assertRaises(NoStack):
                    ask(thing)

    def test_stacks_told_elsewhere(self):
        self.assertEqual(cone(link(TAILED, (2,))), (7, 2, ((0, 6), (1, 6), (4, 6))))
        self.assertEqual(joined(without(TRIANGLE, 2), row_stack(3)), (6, 4, ((0, 1, 3, 4), (0, 1, 4, 5))))
        self.assertEqual(put_on(ring_stack(4), full_stack(4, 2)), full_stack(4, 2))
        self.assertEqual(put_on(rim_stack(PATH), (4, 1, ((1,),))), (4, 1, ((0,), (1,), (3,))))
        self.assertEqual(named(cone(PATH), (4, 3, 2, 1, 0)), (5, 3, ((0, 1, 3), (0, 3, 4))))


if __name__ == "__main__":
    unittest.main()
