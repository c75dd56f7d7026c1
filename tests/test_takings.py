"""Stage 7: points that may be taken, takings and the orders that they tell (7.1 to 7.3)."""

import sys
import unittest
from itertools import combinations

from layfaces.errors import NoNumber, NoStack, NoTaking, TooGreat
from layfaces.laying import is_order
from layfaces.stacks import link, without
from layfaces.takings import is_taking, may_take, some_taking, takable, taken_order, taking_size
from samples import (
    ALONE, APART, EDGES, FOURTEEN, HINGED, LAID_UNTAKEN, LATER_TAKEN, NINE, NOUGHT, ODD, PATH, PINCHED, POINTS,
    RING_AND_ONE, SEVENTY, SHUT, STRIP, STUCK, TAILED, TEN, THREE_APART, TRIANGLE, TWISTED, TWISTED_TEN, full,
    misshapen, nested, no_stacks, small_stacks, swapped, told_first_wrong, told_orders,
)

SMALL = small_stacks(4)
OTHERS = EDGES + SHUT + [
    THREE_APART, RING_AND_ONE, PINCHED, TWISTED, STUCK, NINE, TEN, FOURTEEN, LAID_UNTAKEN, LATER_TAKEN,
    (8, 4, SEVENTY[2][::3]), (6, 3, full(6, 3)[2][:12]), (6, 3, full(6, 3)[2][:13]), (8, 1, full(8, 1)[2][:7]),
]
TWELVE = (6, 3, full(6, 3)[2][:12])
THIRTEEN = (6, 3, full(6, 3)[2][:13])


def told_lacking(stack, point):
    return (stack[0], stack[1], tuple(face for face in stack[2] if point not in face))


def told_around(stack, point):
    rests = [tuple(each for each in face if each != point) for face in stack[2] if point in face]
    return (stack[0], stack[1] - 1, tuple(sorted(rests)))


def told_may_take(stack, point):
    """The words of 7.1, one for one."""
    having = [set(face) for face in stack[2] if point in face]
    others = [set(face) for face in stack[2] if point not in face]
    if not having or not others:
        return False
    return all(any(face - {point} <= other for other in others) for face in having)


def told_taking(stack, thing):
    """The words of 7.2, one for one."""
    if len(stack[2]) == 1:
        return thing is None
    if type(thing) is not tuple or len(thing) != 3:
        return False
    point, one, other = thing
    if type(point) is not int or not 0 <= point < stack[0] or not told_may_take(stack, point):
        return False
    return told_taking(told_lacking(stack, point), one) and told_taking(told_around(stack, point), other)


def told_takings(stack):
    """All takings of a stack of few faces."""
    if len(stack[2]) == 1:
        return [None]
    return [
        (point, one, other) for point in range(stack[0]) if told_may_take(stack, point)
        for one in told_takings(told_lacking(stack, point)) for other in told_takings(told_around(stack, point))
    ]


def has_taking(stack):
    """Whether there is a taking, with each row of points tried."""
    if len(stack[2]) == 1:
        return True
    return any(
        told_may_take(stack, point) and has_taking(told_lacking(stack, point)) and has_taking(told_around(stack, point))
        for point in range(stack[0])
    )


def full_taking(n, k):
    """A taking of the stack of all faces of k of n points, the last point first."""
    if k in (0, n):
        return None
    return (n - 1, full_taking(n - 1, k), full_taking(n - 1, k - 1))


def told_size(taking):
    return 0 if taking is None else 1 + told_size(taking[1]) + told_size(taking[2])


def told_order(stack, taking):
    """The words of 7.3: the list of faces, in the taking's order."""
    if taking is None:
        return list(stack[2])
    point, one, other = taking
    first = told_order(told_lacking(stack, point), one)
    return first + [tuple(sorted(face + (point,))) for face in told_order(told_around(stack, point), other)]


def many_calls(ask, *asked):
    """How many calls of the package's own functions answering takes."""
    found = []

    def watch(frame, event, told):
        if event == "call" and "layfaces" in frame.f_globals["__name__"]:
            found.append(event)

    sys.setprofile(watch)
    try:
        ask(*asked)
    finally:
        sys.setprofile(None)
    return len(found)


class TestMayTake(unittest.TestCase):
    def test_told_out(self):
        self.assertIs(may_take(PATH, 0), True)
        self.assertIs(may_take(PATH, 1), False)
        self.assertIs(may_take(PATH, 2), False)
        self.assertIs(may_take(PATH, 3), True)
        self.assertIs(may_take(NOUGHT, 0), False)
        self.assertEqual(takable(TAILED), [0, 1, 4])
        self.assertEqual(takable(HINGED), [])
        self.assertEqual(takable(POINTS), [0, 2, 4])
        self.assertEqual(takable(NOUGHT), [])
        self.assertEqual(takable(ALONE), [])
        self.assertEqual(takable((1, 1, ((0,),))), [])
        self.assertEqual(takable(APART), [])

    def test_a_point_that_no_face_has_and_one_that_each_face_has(self):
        self.assertIs(may_take((4, 2, ((0, 1), (0, 2))), 3), False)
        self.assertIs(may_take((4, 2, ((0, 1), (0, 2))), 0), False)
        self.assertIs(may_take((4, 2, ((0, 1), (0, 2))), 1), True)

    def test_by_the_words(self):
        for stack in SMALL + OTHERS:
            found = [point for point in range(stack[0]) if told_may_take(stack, point)]
            self.assertEqual(takable(stack), found, stack)
            for point in range(stack[0]):
                self.assertIs(may_take(stack, point), point in found)

    def test_what_is_no_point(self):
        for stack in (NOUGHT, PATH, ALONE):
            for thing in [thing for thing in ODD if thing != 71] + [71, -1, stack[0], stack[0] + 1]:
                with self.assertRaises(NoNumber):
                    may_take(stack, thing)


class TestIsTaking(unittest.TestCase):
    def test_told_out(self):
        self.assertIs(is_taking(NOUGHT, None), True)
        self.assertIs(is_taking(ALONE, None), True)
        self.assertIs(is_taking(ALONE, (1, None, None)), False)
        self.assertIs(is_taking(PATH, None), False)
        self.assertIs(is_taking(PATH, (0, None, None)), True)
        self.assertIs(is_taking(PATH, (3, None, None)), True)
        self.assertIs(is_taking(PATH, (1, None, None)), False)
        self.assertIs(is_taking(TRIANGLE, (0, None, (1, None, None))), True)
        self.assertIs(is_taking(TRIANGLE, (0, (1, None, None), None)), False)
        self.assertIs(is_taking(TRIANGLE, (True, None, (0, None, None))), False)
        self.assertIs(is_taking((4, 1, ((0,), (3,))), (3, None, None)), True)

    def test_all_takings_of_small_stacks(self):
        for stack in SMALL:
            for taking in told_takings(stack)[::5]:
                self.assertIs(is_taking(stack, taking), True)

    def test_one_thing_put_otherwise_at_any_depth(self):
        false = 0
        for stack in (PATH, TRIANGLE, POINTS, TAILED, STRIP, full(4, 3), LATER_TAKEN):
            for taking in told_takings(stack)[:3]:
                things = list(misshapen(taking)) + [thing for odd in ODD for thing in swapped(taking, odd)]
                things += [thing for point in range(9) for thing in swapped(taking, point)]
                for thing in things:
                    wanted = told_taking(stack, thing)
                    self.assertIs(is_taking(stack, thing), wanted, (stack, thing))
                    false += not wanted
        self.assertGreater(false, 5000)

    def test_takings_of_other_stacks(self):
        for stack in SMALL[::9] + OTHERS:
            for other in SMALL[::40]:
                for taking in told_takings(other)[:2]:
                    self.assertIs(is_taking(stack, taking), told_taking(stack, taking))

    def test_anything(self):
        things = ODD + [
            nested(lambda thing: (0, thing, thing), 20), nested(lambda thing: (0, None, thing), 20),
            nested(lambda thing: (0, thing, None), 20), (0, None), (0, None, None, None), [0, None, None],
            {0: None}, "0", (0, [], None), (0, {}, None), (10 ** 30, None, None), (-1, None, None), (None, None, None),
        ]
        for stack in OTHERS + SMALL[::7]:
            for thing in things:
                self.assertIs(is_taking(stack, thing), told_taking(stack, thing), (stack, thing))

    def test_takings_of_more_than_twelve_faces(self):
        for n in range(1, 9):
            for k in range(min(n, 4) + 1):
                self.assertIs(is_taking(full(n, k), full_taking(n, k)), True)
        taking = full_taking(8, 4)
        self.assertIs(is_taking((8, 4, SEVENTY[2][1:]), taking), False)
        self.assertIs(is_taking(SEVENTY, (6,) + taking[1:]), False)


class TestSomeTaking(unittest.TestCase):
    def test_told_out(self):
        self.assertIsNone(some_taking(NOUGHT))
        self.assertIsNone(some_taking(ALONE))
        self.assertIsNone(some_taking(APART))
        self.assertIn(some_taking(PATH), [(0, None, None), (3, None, None)])
        for stack in (PINCHED, HINGED, TWISTED, TWISTED_TEN):
            self.assertIsNone(some_taking(stack))

    def test_by_the_words(self):
        kinds = set()
        for stack in SMALL + [stack for stack in OTHERS if len(stack[2]) < 13]:
            found = some_taking(stack)
            if len(stack[2]) == 1 or not has_taking(stack):
                self.assertIsNone(found)
            else:
                self.assertTrue(told_taking(stack, found), stack)
                self.assertIs(is_taking(stack, found), True)
            kinds.add((len(stack[2]) == 1, found is None))
        self.assertEqual(kinds, {(True, True), (False, True), (False, False)})

    def test_stacks_of_five_and_six_points(self):
        faces = full(6, 3)[2]
        for many in (5, 7, 9):
            for some in list(combinations(faces[:13], many))[::29]:
                stack = (6, 3, some)
                found = some_taking(stack)
                self.assertEqual(found is not None, has_taking(stack))
                if found is not None:
                    self.assertTrue(told_taking(stack, found))

    def test_a_first_point_that_leads_nowhere(self):
        first = takable(LATER_TAKEN)[0]
        self.assertFalse(has_taking(without(LATER_TAKEN, first)) and has_taking(link(LATER_TAKEN, (first,))))
        self.assertTrue(told_taking(LATER_TAKEN, some_taking(LATER_TAKEN)))

    def test_an_order_but_no_taking(self):
        self.assertIs(is_order(LAID_UNTAKEN, (9, 8, 7, 6, 5, 4, 3, 1, 2, 0)), True)
        self.assertIsNone(some_taking(LAID_UNTAKEN))

    def test_too_many_faces(self):
        self.assertTrue(told_taking(TWELVE, some_taking(TWELVE)))
        for stack in (THIRTEEN, FOURTEEN, SEVENTY, full(8, 2), full(8, 3)):
            with self.assertRaises(TooGreat) as caught:
                some_taking(stack)
            self.assertEqual((caught.exception.many, caught.exception.most), (len(stack[2]), 12))

    def test_each_stack_is_gone_through_once(self):
        # Points come off in many rows that leave the same faces; no row leads to an end. By each row of points it
        # is more than six times as many calls as by each stack once, with either Python.
        apart = (8, 2, tuple(combinations(range(4), 2)) + tuple(combinations(range(4, 8), 2)))
        self.assertIsNone(some_taking(apart))
        self.assertLess(many_calls(some_taking, apart), 40000)

    def test_the_same_question_has_the_same_answer(self):
        for stack in SMALL[::3]:
            self.assertEqual(some_taking(stack), some_taking(stack))


class TestTakingSize(unittest.TestCase):
    def test_told_out(self):
        self.assertEqual(taking_size(NOUGHT, None), 0)
        self.assertEqual(taking_size(PATH, (0, None, None)), 1)
        self.assertEqual(taking_size(TRIANGLE, (0, None, (1, None, None))), 2)
        self.assertEqual(taking_size(SEVENTY, full_taking(8, 4)), 69)

    def test_how_many_tuples(self):
        for stack in SMALL[::3] + [stack for stack in OTHERS if len(stack[2]) < 10]:
            for taking in told_takings(stack)[:3]:
                self.assertEqual(taking_size(stack, taking), told_size(taking))
                self.assertEqual(told_size(taking), len(stack[2]) - 1)


class TestTakenOrder(unittest.TestCase):
    def test_told_out(self):
        self.assertEqual(taken_order(NOUGHT, None), (0,))
        self.assertEqual(taken_order(ALONE, None), (0,))
        self.assertEqual(taken_order(PATH, (0, None, None)), (1, 0))
        self.assertEqual(taken_order(PATH, (3, None, None)), (0, 1))
        # Faces 01, 02, 12: 12 lacks the point 0; of 01 and 02 the one without 1 comes first.
        self.assertEqual(taken_order(TRIANGLE, (0, None, (1, None, None))), (2, 1, 0))
        self.assertEqual(taken_order(TRIANGLE, (2, None, (0, None, None))), (0, 2, 1))

    def test_by_the_words(self):
        for stack in SMALL + [stack for stack in OTHERS if len(stack[2]) < 10]:
            for taking in told_takings(stack)[:4]:
                found = taken_order(stack, taking)
                self.assertEqual([stack[2][number] for number in found], told_order(stack, taking))
                self.assertIsNone(told_first_wrong(stack, found))

    def test_it_is_an_order_of_all_faces(self):
        for n in range(1, 9):
            for k in range(min(n, 4) + 1):
                found = taken_order(full(n, k), full_taking(n, k))
                self.assertIs(is_order(full(n, k), found), True)
        for stack in SMALL:
            if has_taking(stack):
                self.assertEqual(len(told_orders(stack, 1)), 1)

    def test_what_is_no_taking(self):
        for stack in (NOUGHT, PATH, TRIANGLE, POINTS, APART, HINGED, TAILED, SEVENTY):
            for thing in ODD + [None, (0, None, None), (1, None, None), (0, None), [0, None, None], (3, None, None)]:
                if not told_taking(stack, thing):
                    for ask in (taking_size, taken_order):
                        with self.assertRaises(NoTaking):
                            ask(stack, thing)


class TestRefused(unittest.TestCase):
    def test_stacks(self):
        asked = [
            takable, some_taking, lambda thing: may_take(thing, 0), lambda thing: may_take(thing, None),
            lambda thing: is_taking(thing, None), lambda thing: is_taking(thing, [thing]),
            lambda thing: taking_size(thing, (0, None, None)), lambda thing: taken_order(thing, 0),
        ]
        for thing in no_stacks():
            for ask in asked:
                with self.assertRaises(NoStack):
                    ask(thing)


if __name__ == "__main__":
    unittest.main()
