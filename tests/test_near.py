"""Stage 9: neighbours, pieces, ways and what an order leans on (9.1 to 9.3)."""

import unittest
from itertools import permutations, product

from layfaces.errors import NoNumber, NoOrder, NoPart, NoStack
from layfaces.kinds import full_stack, pairs_stack, plain_order, ring_stack, row_stack
from layfaces.laying import brings, is_order
from layfaces.near import far, is_way, leaned, link_order, near, pieces, some_way
from layfaces.orders import first_order
from layfaces.stacks import link
from samples import (
    ALONE, APART, APART_FOUR, EDGES, FOURTEEN, HINGED, NINE, NOUGHT, ODD, PATH, PINCHED, POINTS, RING_AND_ONE,
    SEVENTY, SHUT, STRIP, STUCK, TAILED, TEN, THREE_APART, TRIANGLE, TWISTED, TWISTED_TEN, full, misshapen,
    no_stacks, small_stacks, swapped, told_first_wrong, told_orders, told_parts,
)

SMALL = small_stacks(4)
OTHERS = EDGES + SHUT + [
    THREE_APART, RING_AND_ONE, PINCHED, TWISTED, STUCK, NINE, TEN, FOURTEEN, TWISTED_TEN, (8, 4, SEVENTY[2][::7]),
    (8, 3, ((0, 1, 2), (0, 1, 3), (4, 5, 6), (4, 5, 7))),
]
STACKS = SMALL + OTHERS


def told_near(stack, number):
    """The words of 9.1, one for one."""
    face = set(stack[2][number])
    return [
        at for at, other in enumerate(stack[2])
        if at != number and len(face & set(other)) == stack[1] - 1
    ]


def told_far(stack):
    """Of each two faces the least number of steps, by putting ways together over each face in turn."""
    many = len(stack[2])
    steps = {(at, other): 1 for at in range(many) for other in told_near(stack, at)}
    steps.update({(at, at): 0 for at in range(many)})
    for over in range(many):
        for one, other in product(range(many), repeat=2):
            if (one, over) in steps and (over, other) in steps:
                by = steps[(one, over)] + steps[(over, other)]
                steps[(one, other)] = min(by, steps.get((one, other), by))
    return steps


def told_way(stack, one, other, thing):
    """The words of 9.2, one for one."""
    numbers = {repr(number) for number in range(len(stack[2]))}
    if type(thing) is not tuple or not thing or any(repr(each) not in numbers for each in thing):
        return False
    if thing[0] != one or thing[-1] != other:
        return False
    return all(after in told_near(stack, ahead) for ahead, after in zip(thing, thing[1:]))


class TestNear(unittest.TestCase):
    def test_told_out(self):
        self.assertEqual(near(NOUGHT, 0), [])
        self.assertEqual(near(ALONE, 0), [])
        self.assertEqual(near(POINTS, 1), [0, 2])
        self.assertEqual(near(APART, 0), [])
        self.assertEqual(near(TAILED, 1), [0, 2, 3])
        self.assertEqual(near(HINGED, 0), [])
        self.assertEqual(near(STRIP, 1), [0, 2])
        self.assertEqual(len(near(SEVENTY, 33)), 16)

    def test_by_the_words(self):
        for stack in STACKS:
            for number in range(len(stack[2])):
                self.assertEqual(near(stack, number), told_near(stack, number), stack)

    def test_what_is_no_number_of_a_face(self):
        for stack in (NOUGHT, PATH, SEVENTY):
            many = len(stack[2])
            for thing in [thing for thing in ODD if type(thing) is not int] + [-1, many, many + 1, 10 ** 30]:
                asked = [(near, thing), (far, thing, 0), (far, 0, thing), (some_way, thing, 0), (some_way, 0, thing)]
                asked += [(is_way, thing, 0, (0,)), (is_way, 0, thing, (0,)), (is_way, thing, thing, None)]
                for ask, *given in asked:
                    with self.assertRaises(NoNumber):
                        ask(stack, *given)


class TestPieces(unittest.TestCase):
    def test_told_out(self):
        self.assertEqual(pieces(NOUGHT), [(0,)])
        self.assertEqual(pieces(TRIANGLE), [(0, 1, 2)])
        self.assertEqual(pieces(APART), [(0,), (1,)])
        self.assertEqual(pieces(RING_AND_ONE), [(0, 1, 2), (3,)])
        self.assertEqual(pieces(THREE_APART), [(0,), (1,), (2,)])
        self.assertEqual(pieces(HINGED), [(0,), (1,)])
        self.assertEqual(pieces((6, 2, ((0, 3), (1, 4), (2, 5), (3, 5)))), [(0, 2, 3), (1,)])
        self.assertEqual(pieces(SEVENTY), [tuple(range(70))])
        self.assertEqual(pieces(FOURTEEN), [(number,) for number in range(14)])
        self.assertEqual(pieces(full(8, 1)), [tuple(range(8))])

    def test_by_the_words(self):
        for stack in STACKS:
            steps = told_far(stack)
            many = range(len(stack[2]))
            wanted = sorted({tuple(other for other in many if (one, other) in steps) for one in many})
            self.assertEqual(pieces(stack), wanted, stack)

    def test_a_stack_with_an_order_is_of_one_piece(self):
        for stack in STACKS:
            if len(stack[2]) < 10 and first_order(stack) is not None:
                self.assertEqual(pieces(stack), [tuple(range(len(stack[2])))])


class TestFar(unittest.TestCase):
    def test_told_out(self):
        self.assertEqual(far(NOUGHT, 0, 0), 0)
        self.assertEqual(some_way(NOUGHT, 0, 0), (0,))
        self.assertEqual(far(STRIP, 0, 3), 3)
        self.assertEqual(some_way(STRIP, 0, 3), (0, 1, 2, 3))
        self.assertEqual(some_way(STRIP, 3, 1), (3, 2, 1))
        self.assertIsNone(far(APART, 0, 1))
        self.assertIsNone(some_way(APART, 1, 0))
        self.assertEqual(far(APART, 1, 1), 0)
        self.assertEqual(some_way(APART, 1, 1), (1,))
        self.assertEqual(far(SEVENTY, 0, 69), 4)
        self.assertEqual(far(ring_stack(8), 0, 5), 4)
        self.assertEqual(far(row_stack(8), 0, 6), 6)
        self.assertEqual(far(row_stack(8), 6, 0), 6)

    def test_by_the_words(self):
        for stack in STACKS:
            steps = told_far(stack)
            for one, other in list(product(range(len(stack[2])), repeat=2))[::1 + len(stack[2]) // 4]:
                wanted = steps.get((one, other))
                self.assertEqual(far(stack, one, other), wanted, stack)
                way = some_way(stack, one, other)
                if wanted is None:
                    self.assertIsNone(way)
                else:
                    self.assertEqual(len(way) - 1, wanted)
                    self.assertTrue(told_way(stack, one, other, way))
                    self.assertIs(is_way(stack, one, other, way), True)

    def test_what_stands_further_to_the_left_is_refused_first(self):
        for ask in (far, some_way):
            with self.assertRaises(NoStack):
                ask([], None, None)
            with self.assertRaises(NoNumber):
                ask(PATH, None, None)
        with self.assertRaises(NoNumber):
            is_way(PATH, 0, None, [])


class TestIsWay(unittest.TestCase):
    def test_told_out(self):
        self.assertIs(is_way(TRIANGLE, 0, 2, (0, 2)), True)
        self.assertIs(is_way(TRIANGLE, 0, 2, (0, 1, 2)), True)
        self.assertIs(is_way(TRIANGLE, 0, 2, (0, 1, 2, 0, 1, 2, 0, 2)), True)
        self.assertIs(is_way(TRIANGLE, 0, 2, (2, 0)), False)
        self.assertIs(is_way(TRIANGLE, 0, 2, (0, 0, 2)), False)
        self.assertIs(is_way(TRIANGLE, 0, 0, (0,)), True)
        self.assertIs(is_way(TRIANGLE, 0, 0, (0, 1, 0)), True)
        self.assertIs(is_way(TRIANGLE, 0, 0, (0, 0)), False)
        self.assertIs(is_way(TRIANGLE, 0, 0, ()), False)
        self.assertIs(is_way(TRIANGLE, 0, 1, ()), False)
        self.assertIs(is_way(TRIANGLE, 0, 0, (1,)), False)
        self.assertIs(is_way(TRIANGLE, 0, 1, (False, True)), False)
        self.assertIs(is_way(TRIANGLE, 0, 1, [0, 1]), False)
        self.assertIs(is_way(APART, 0, 1, (0, 1)), False)
        self.assertIs(is_way(STRIP, 0, 2, (0, 2)), False)
        self.assertIs(is_way(NOUGHT, 0, 0, (0,)), True)
        self.assertIs(is_way(NOUGHT, 0, 0, (0, 0)), False)

    def test_all_short_rows(self):
        for stack in (NOUGHT, PATH, TRIANGLE, APART, POINTS, TAILED, STRIP, RING_AND_ONE):
            many = range(len(stack[2]))
            rows = [row for size in range(5) for row in product(many, repeat=size)]
            for one, other in product(many, repeat=2):
                for row in rows:
                    self.assertIs(is_way(stack, one, other, row), told_way(stack, one, other, row))

    def test_anything(self):
        for stack, way in ((NOUGHT, (0,)), (PATH, (0, 1)), (STRIP, (0, 1, 2, 3)), (SEVENTY, some_way(SEVENTY, 0, 69))):
            things = ODD + list(misshapen(way)) + [thing for odd in ODD for thing in swapped(way, odd)]
            things += [way + (len(stack[2]),), (-1,) + way, way + way[-2:], way * 2, way + way[::-1][1:] + way[1:]]
            for thing in things:
                for one, other in ((way[0], way[-1]), (way[-1], way[0]), (0, 0)):
                    wanted = told_way(stack, one, other, thing)
                    self.assertIs(is_way(stack, one, other, thing), wanted, thing)

    def test_long_ways(self):
        self.assertIs(is_way(TRIANGLE, 0, 2, (0, 1, 2) * 1000), True)
        self.assertIs(is_way(TRIANGLE, 0, 2, (0, 1, 2) * 500 + (2, 0, 1, 2)), False)


class TestLeaned(unittest.TestCase):
    def test_told_out(self):
        self.assertEqual(leaned(NOUGHT, (0,)), [])
        self.assertEqual(leaned(ALONE, (0,)), [])
        self.assertEqual(leaned(PATH, (1, 0)), [1])
        self.assertEqual(leaned(TAILED, (0, 1, 2, 3)), [0, 0, 1])
        self.assertEqual(leaned(TAILED, (0, 2, 1, 3)), [0, 0, 2])
        self.assertEqual(leaned(POINTS, (2, 0, 1)), [2, 2])
        self.assertEqual(leaned(STRIP, (3, 2, 1, 0)), [3, 2, 1])

    def test_by_the_words(self):
        for stack in STACKS:
            if len(stack[2]) < 15:
                for order in told_orders(stack, 12):
                    wanted = []
                    for place in range(1, len(order)):
                        ahead = [each for each in order[:place] if each in told_near(stack, order[place])]
                        wanted.append(ahead[0])
                    self.assertEqual(leaned(stack, order), wanted)

    def test_seventy_faces(self):
        order = plain_order(SEVENTY)
        found = leaned(SEVENTY, order)
        self.assertEqual(found, [min(told_near(SEVENTY, number)) for number in order[1:]])
        self.assertTrue(all(lean < number for lean, number in zip(found, order[1:])))


class TestLinkOrder(unittest.TestCase):
    def test_told_out(self):
        self.assertEqual(link_order(NOUGHT, (0,), ()), (0,))
        self.assertEqual(link_order(TAILED, (3, 1, 0, 2), ()), (3, 1, 0, 2))
        # The faces with 2 are 02, 12 and 24: in the link 0, 1 and 4.
        self.assertEqual(link_order(TAILED, (3, 1, 0, 2), (2,)), (2, 0, 1))
        self.assertEqual(link_order(TAILED, (3, 1, 0, 2), (2, 4)), (0,))
        self.assertEqual(link_order(STRIP, (3, 2, 1, 0), (2,)), (2, 1, 0))

    def test_by_the_words(self):
        asked = 0
        for stack in SMALL[::2] + [stack for stack in OTHERS if len(stack[2]) < 15]:
            for order in told_orders(stack, 4)[::3]:
                brought = dict(zip(order, brings(stack, order)))
                for part in told_parts(stack):
                    asked += 1
                    around = link(stack, part)
                    having = [number for number in order if set(part) <= set(stack[2][number])]
                    rests = [tuple(point for point in stack[2][number] if point not in part) for number in having]
                    found = link_order(stack, order, part)
                    self.assertEqual([around[2][number] for number in found], rests)
                    self.assertIsNone(told_first_wrong(around, found))
                    self.assertEqual(brings(around, found), [
                        tuple(point for point in brought[number] if point not in part) for number in having
                    ])
        self.assertGreater(asked, 1000)

    def test_parts_and_whole_faces_of_seventy(self):
        order = plain_order(SEVENTY)
        self.assertEqual(link_order(SEVENTY, order, ()), order)
        for face in SEVENTY[2][::9]:
            self.assertEqual(link_order(SEVENTY, order, face), (0,))
        self.assertIs(is_order(link(SEVENTY, (3, 5)), link_order(SEVENTY, order, (3, 5))), True)

    def test_what_is_no_part(self):
        order = (0, 1, 2, 3)
        for thing in [thing for thing in ODD if thing != ()] + [(0, 4), (3,), (5,), (6,), (1, 0), (0, 1, 2), [0, 1]]:
            with self.assertRaises(NoPart):
                link_order(TAILED, order, thing)

    def test_what_is_no_order(self):
        for stack, order in ((TRIANGLE, (0, 1, 2)), (TAILED, (0, 1, 2, 3)), (NOUGHT, (0,))):
            things = ODD + list(misshapen(order)) + [thing for odd in ODD for thing in swapped(order, odd)]
            for thing in things + [(), list(order)]:
                if not is_order(stack, thing):
                    for ask in (leaned, lambda one, other: link_order(one, other, ())):
                        with self.assertRaises(NoOrder):
                            ask(stack, thing)
                    with self.assertRaises(NoOrder):
                        link_order(stack, thing, None)
        for stack in (APART, HINGED, APART_FOUR):
            for row in permutations(range(2)):
                with self.assertRaises(NoOrder):
                    leaned(stack, row)


class TestRefused(unittest.TestCase):
    def test_stacks(self):
        asked = [
            pieces, lambda thing: near(thing, 0), lambda thing: near(thing, None), lambda thing: far(thing, 0, 1),
            lambda thing: some_way(thing, 0, 1), lambda thing: is_way(thing, 0, 1, (0, 1)),
            lambda thing: is_way(thing, None, None, None), lambda thing: leaned(thing, (0, 1)),
            lambda thing: link_order(thing, (0, 1), ()), lambda thing: link_order(thing, None, None),
        ]
        for thing in no_stacks():
            for ask in asked:
                with self.assertRaises(NoStack):
                    ask(thing)

    def test_stacks_told_elsewhere(self):
        self.assertEqual(pieces(link(HINGED, (0,))), [(0,), (1,)])
        self.assertEqual(far(pairs_stack(3), 0, 7), 3)
        self.assertEqual(near(full_stack(3, 2), 0), [1, 2])


if __name__ == "__main__":
    unittest.main()
