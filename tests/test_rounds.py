"""Stage 9: rounds, how many there are, and the one by a face that brings all its points (9.4)."""

import unittest
from itertools import combinations

from layfaces.counted import told
from layfaces.errors import NoLot, NoNumber, NoOrder, NoStack
from layfaces.joins import cone, joined
from layfaces.kinds import full_stack, pairs_stack, plain_order, ring_stack
from layfaces.laying import brings, is_order
from layfaces.rounds import is_round, many_rounds, round_by
from layfaces.stacks import link
from samples import (
    ALONE, APART, EDGES, FOURTEEN, HINGED, NINE, NOUGHT, ODD, PATH, PINCHED, POINTS, RING_AND_ONE, SEVENTY, SHUT,
    STRIP, STUCK, TAILED, TEN, THREE_APART, TRIANGLE, TWISTED, TWISTED_TEN, full, misshapen, no_stacks, small_stacks,
    swapped, told_lot, told_lots, told_orders,
)

SMALL = small_stacks(4)
OTHERS = EDGES + SHUT + [THREE_APART, RING_AND_ONE, PINCHED, TWISTED, STUCK, NINE, TEN, FOURTEEN, TWISTED_TEN]
POINTED = [stack for stack in SMALL + OTHERS if stack[1] > 0]
NO_POINTS = [NOUGHT, (8, 0, ((),)), (4, 0, ((),))]


def told_round(stack, lot):
    """The words of 9.4, one for one."""
    held = {}
    for number in lot:
        for part in combinations(stack[2][number], stack[1] - 1):
            held[part] = held.get(part, 0) + 1
    return all(many % 2 == 0 for many in held.values())


def told_rounds(stack):
    return [lot for lot in told_lots(stack) if told_round(stack, lot)]


class TestIsRound(unittest.TestCase):
    def test_told_out(self):
        self.assertIs(is_round(TRIANGLE, ()), True)
        self.assertIs(is_round(TRIANGLE, (0, 1, 2)), True)
        self.assertIs(is_round(TRIANGLE, (0, 1)), False)
        self.assertIs(is_round(TAILED, (0, 1, 2)), True)
        self.assertIs(is_round(TAILED, (0, 1, 2, 3)), False)
        self.assertIs(is_round(POINTS, (0, 2)), True)
        self.assertIs(is_round(POINTS, (1,)), False)
        self.assertIs(is_round(POINTS, (0, 1, 2)), False)
        self.assertIs(is_round(ALONE, ()), True)
        self.assertIs(is_round(ALONE, (0,)), False)

    def test_all_lots_of_small_stacks(self):
        for stack in POINTED:
            if len(stack[2]) < 7:
                for lot in told_lots(stack):
                    self.assertIs(is_round(stack, lot), told_round(stack, lot))

    def test_a_lot_of_all_faces_and_of_none(self):
        for stack in POINTED:
            whole = tuple(range(len(stack[2])))
            self.assertIs(is_round(stack, ()), True)
            self.assertIs(is_round(stack, whole), told_round(stack, whole))
        for stack in SHUT:
            self.assertIs(is_round(stack, tuple(range(len(stack[2])))), True)
        # Each three points are in five of the faces.
        self.assertIs(is_round(SEVENTY, tuple(range(70))), False)
        self.assertIs(is_round(full(7, 4), tuple(range(35))), True)

    def test_some_lots_of_others(self):
        for stack in OTHERS:
            if stack[1] > 0:
                for step in (1, 2, 3, 5):
                    for at in range(4):
                        lot = tuple(range(len(stack[2])))[at::step]
                        self.assertIs(is_round(stack, lot), told_round(stack, lot))

    def test_what_is_no_lot(self):
        for stack, lot in ((ALONE, (0,)), (TRIANGLE, (0, 1, 2)), (TAILED, (1, 3)), (SEVENTY, (0, 34, 69))):
            things = ODD + list(misshapen(lot)) + [thing for odd in ODD for thing in swapped(lot, odd)]
            for thing in things + [(len(stack[2]),), [], list(lot), lot[::-1] + (0,)]:
                if not told_lot(stack, thing):
                    with self.assertRaises(NoLot):
                        is_round(stack, thing)


class TestManyRounds(unittest.TestCase):
    def test_told_out(self):
        self.assertEqual(many_rounds(ALONE), 1)
        self.assertEqual(many_rounds((1, 1, ((0,),))), 1)
        self.assertEqual(many_rounds(TRIANGLE), 2)
        self.assertEqual(many_rounds(POINTS), 4)
        self.assertEqual(many_rounds(full(8, 1)), 2 ** 7)
        self.assertEqual(many_rounds(APART), 1)
        self.assertEqual(many_rounds(TEN), 2 ** 6)
        self.assertEqual(many_rounds(SEVENTY), 2 ** 35)
        self.assertEqual(many_rounds(full(8, 3)), 2 ** 35)
        self.assertEqual(many_rounds(pairs_stack(4)), 2)
        # Barred by its bars, but the lot of all its faces is a round.
        self.assertEqual(many_rounds(TWISTED_TEN), 2)
        self.assertEqual(many_rounds((6, 2, ((0, 1), (0, 2), (1, 2), (3, 4), (3, 5), (4, 5)))), 4)

    def test_by_the_words(self):
        for stack in POINTED:
            if len(stack[2]) < 11:
                self.assertEqual(many_rounds(stack), len(told_rounds(stack)), stack)

    def test_by_the_last_told_number(self):
        for stack in POINTED:
            if len(stack[2]) < 11 and told_orders(stack, 1) or plain_order(stack) is not None:
                self.assertEqual(many_rounds(stack), 2 ** told(stack)[-1])

    def test_faces_without_points(self):
        for stack in NO_POINTS:
            with self.assertRaises(NoNumber):
                many_rounds(stack)
            for lot in ((), (0,), (1,), None, [], True):
                with self.assertRaises(NoNumber):
                    is_round(stack, lot)


class TestRoundBy(unittest.TestCase):
    def test_told_out(self):
        self.assertEqual(round_by(TRIANGLE, (0, 1, 2), 2), (0, 1, 2))
        self.assertEqual(round_by(TRIANGLE, (2, 1, 0), 0), (0, 1, 2))
        self.assertEqual(round_by(TAILED, (3, 2, 0, 1), 1), (0, 1, 2))
        self.assertEqual(round_by(POINTS, (1, 0, 2), 0), (0, 1))
        self.assertEqual(round_by(POINTS, (1, 0, 2), 2), (1, 2))
        self.assertEqual(round_by((2, 1, ((0,), (1,))), (0, 1), 1), (0, 1))

    def test_there_is_just_one(self):
        asked = 0
        for stack in POINTED:
            if len(stack[2]) < 9:
                rounds = told_rounds(stack)
                for order in told_orders(stack, 30)[::7]:
                    asked += self.each_face(stack, order, rounds)
        self.assertGreater(asked, 150)

    def each_face(self, stack, order, rounds):
        brought = brings(stack, order)
        whole = [number for number, points in zip(order, brought) if len(points) == stack[1]]
        for number in order:
            if number in whole:
                wanted = [lot for lot in rounds if [each for each in lot if each in whole] == [number]]
                self.assertEqual([round_by(stack, order, number)], wanted)
            else:
                with self.assertRaises(NoNumber):
                    round_by(stack, order, number)
        return len(whole)

    def test_great_ones(self):
        for stack in (SEVENTY, full(8, 3), full(8, 2), full(7, 4), pairs_stack(4), joined(full(4, 2), full(4, 2))):
            order = tuple(range(len(stack[2])))
            self.assertIs(is_order(stack, order), True)
            brought = brings(stack, order)
            whole = [number for number in order if len(brought[number]) == stack[1]]
            self.assertGreater(len(whole), 0)
            for number in whole[::3]:
                lot = round_by(stack, order, number)
                self.assertEqual([each for each in lot if each in whole], [number])
                self.assertTrue(told_round(stack, lot))
                self.assertIs(is_round(stack, lot), True)

    def test_faces_that_bring_less(self):
        for number in (0, 1):
            with self.assertRaises(NoNumber):
                round_by(TRIANGLE, (0, 1, 2), number)
        with self.assertRaises(NoNumber):
            round_by(ALONE, (0,), 0)
        for number in range(4):
            with self.assertRaises(NoNumber):
                round_by(STRIP, (0, 1, 2, 3), number)

    def test_what_is_no_number_of_a_face(self):
        for thing in [thing for thing in ODD if type(thing) is not int] + [-1, 3, 4, 10 ** 30, True, False, (2,), "2"]:
            with self.assertRaises(NoNumber):
                round_by(TRIANGLE, (0, 1, 2), thing)

    def test_what_is_no_order(self):
        for thing in ODD + [(0, 1), (1, 0), [0, 1, 2], (0, 1, 2, 3), (0, 1, 1), (False, 1, 2), ()]:
            for number in (2, None, 9):
                with self.assertRaises(NoOrder):
                    round_by(TRIANGLE, thing, number)
        with self.assertRaises(NoOrder):
            round_by(APART, (0, 1), 0)

    def test_faces_without_points(self):
        for stack in NO_POINTS:
            for thing in ((), (0, 0), (1,), None, [0]):
                with self.assertRaises(NoOrder):
                    round_by(stack, thing, 0)
            for number in (0, 1, None):
                with self.assertRaises(NoNumber):
                    round_by(stack, (0,), number)


class TestRefused(unittest.TestCase):
    def test_stacks(self):
        asked = [
            many_rounds, lambda thing: is_round(thing, ()), lambda thing: is_round(thing, None),
            lambda thing: round_by(thing, (0, 1), 1), lambda thing: round_by(thing, None, None),
        ]
        for thing in no_stacks():
            for ask in asked:
                with self.assertRaises(NoStack):
                    ask(thing)

    def test_stacks_told_elsewhere(self):
        self.assertEqual(many_rounds(link(HINGED, (0,))), 1)
        self.assertEqual(many_rounds(cone(ring_stack(4))), 1)
        self.assertEqual(many_rounds(link(cone(ring_stack(4)), (4,))), 2)
        self.assertEqual(round_by(full_stack(4, 3), (3, 0, 1, 2), 2), (0, 1, 2, 3))
        self.assertEqual(many_rounds(PATH), 1)


if __name__ == "__main__":
    unittest.main()
