"""Stage 3: orders and laid lots (3.1, 3.2), and whether a laid lot leads on (3.4)."""

import sys
import unittest
from itertools import permutations
from math import factorial

from layfaces.errors import LayError, NoLot, NoStack, TooGreat
from layfaces.laying import is_order
from layfaces.orders import first_order, laid_lots, leads_on, many_orders, most_laid, stuck_lots
from samples import (
    ALONE, APART, APART_FOUR, EDGES, FOURTEEN, HINGED, NINE, NOUGHT, ODD, PATH, PINCHED, POINTS, RING_AND_ONE,
    SEVENTY, STRIP, STUCK, TAILED, TEN, THREE_APART, TRIANGLE, TWISTED, TWISTED_TEN, full, misshapen,
    small_stacks, swapped, told_first_wrong, told_laid, told_lot, told_lots, told_may_lay,
)

SMALL = small_stacks(4)
# All rows of these are gone through.
ROWED = SMALL + [HINGED, STRIP, TAILED, APART_FOUR, THREE_APART, RING_AND_ONE, PINCHED, POINTS, ALONE, full(5, 4)]
# All lots of these are gone through; among them all kinds of nine faces.
LOTTED = ROWED + [TWISTED, STUCK, NINE, (5, 3, full(5, 3)[2][1:]), full(8, 1)]
LOTTED += [(8, 4, SEVENTY[2][::8]), (8, 2, full(8, 2)[2][::3][:9])]
GREAT = [TEN, full(5, 3), TWISTED_TEN, FOURTEEN, full(8, 2), full(8, 3), SEVENTY]
ASKERS = [first_order, many_orders, laid_lots, most_laid, stuck_lots]


def told_orders(stack):
    """All orders, out of all rows, as tuples compare."""
    return [row for row in permutations(range(len(stack[2]))) if told_first_wrong(stack, row) is None]


def told_onward(stack):
    """Of each lot, how many rows there are to lay what is left on it, from the greatest lot on."""
    whole = tuple(range(len(stack[2])))
    found = {whole: 1}
    for lot in sorted(told_lots(stack)[:-1], key=len, reverse=True):
        found[lot] = sum(
            found[tuple(sorted(lot + (number,)))] for number in whole if told_may_lay(stack, lot, number)
        )
    return found


def calls_made(ask, *asked):
    """How many functions of Python are called, one within another or not, until it is answered."""
    many = [0]

    def count(frame, event, told):
        many[0] += event == "call"

    sys.setprofile(count)
    try:
        ask(*asked)
    finally:
        sys.setprofile(None)
    return many[0]


class TestOrders(unittest.TestCase):
    def test_told_out(self):
        self.assertEqual(first_order(TRIANGLE), (0, 1, 2))
        self.assertEqual(many_orders(TRIANGLE), 6)
        self.assertEqual(first_order(STRIP), (0, 1, 2, 3))
        self.assertEqual(many_orders(STRIP), 8)
        self.assertEqual(first_order((4, 2, ((0, 1), (0, 2), (1, 3)))), (0, 1, 2))
        self.assertEqual(first_order((5, 2, ((0, 1), (1, 4), (2, 3), (3, 4)))), (0, 1, 3, 2))
        self.assertIsNone(first_order(APART))
        self.assertEqual(many_orders(APART), 0)
        self.assertIsNone(first_order(TWISTED))
        self.assertEqual(many_orders(TWISTED), 0)

    def test_one_face_alone(self):
        for stack in (NOUGHT, ALONE, (8, 0, ((),)), (1, 1, ((0,),)), full(4, 4)):
            self.assertEqual(first_order(stack), (0,))
            self.assertEqual(many_orders(stack), 1)

    def test_points_are_laid_in_each_row(self):
        for n in range(1, 9):
            self.assertEqual(many_orders(full(n, 1)), factorial(n))
            self.assertEqual(first_order(full(n, 1)), tuple(range(n)))

    def test_by_all_rows(self):
        for stack in ROWED:
            orders = told_orders(stack)
            self.assertEqual(first_order(stack), orders[0] if orders else None, stack)
            self.assertEqual(many_orders(stack), len(orders), stack)

    def test_by_all_lots(self):
        for stack in LOTTED:
            onward = told_onward(stack)
            self.assertEqual(many_orders(stack), onward[()], stack)
            first = first_order(stack)
            self.assertEqual(first is not None, onward[()] > 0)
            if first is not None:
                self.assertIs(is_order(stack, first), True)

    def test_the_first_face_that_may_be_laid_can_be_the_wrong_one(self):
        self.assertIs(told_may_lay(STUCK, (0, 1), 2), True)
        self.assertEqual(first_order(STUCK), (0, 1, 3, 4, 5, 8, 6, 7, 2))
        self.assertEqual(many_orders(STUCK), 2496)

    def test_no_order_comes_ahead_of_the_first(self):
        for stack in (STUCK, NINE, STRIP, TAILED):
            first = first_order(stack)
            onward = told_onward(stack)
            for place in range(len(first)):
                for number in range(first[place]):
                    if told_may_lay(stack, tuple(sorted(first[:place])), number):
                        self.assertEqual(onward[tuple(sorted(first[:place] + (number,)))], 0)

    def test_not_all_rows_are_gone_through(self):
        for stack in (NINE, STUCK, (5, 3, full(5, 3)[2][1:]), full(8, 1)):
            for ask in ASKERS:
                self.assertLess(calls_made(ask, stack), 60000)


class TestLaidLots(unittest.TestCase):
    def test_told_out(self):
        self.assertEqual(laid_lots(NOUGHT), [(), (0,)])
        self.assertEqual(laid_lots(PATH), [(), (0,), (0, 1), (1,)])
        self.assertEqual(laid_lots(APART), [(), (0,), (1,)])
        self.assertEqual(laid_lots(RING_AND_ONE), [(), (0,), (0, 1), (0, 1, 2), (0, 2), (1,), (1, 2), (2,), (3,)])
        self.assertEqual(most_laid(NOUGHT), 1)
        self.assertEqual(most_laid(APART), 1)
        self.assertEqual(most_laid(RING_AND_ONE), 3)
        self.assertEqual(most_laid(STUCK), 9)
        self.assertEqual(stuck_lots(NOUGHT), [])
        self.assertEqual(stuck_lots(PATH), [])
        self.assertEqual(stuck_lots(APART), [(0,), (1,)])
        self.assertEqual(stuck_lots(RING_AND_ONE), [(0, 1, 2), (3,)])
        self.assertEqual(stuck_lots(STUCK), [(0, 1, 2, 3)])
        self.assertEqual(len(laid_lots(TWISTED)), 85)

    def test_by_the_words(self):
        for stack in LOTTED:
            laid = told_laid(stack)
            whole = tuple(range(len(stack[2])))
            stuck = [
                lot for lot in laid
                if lot != whole and not any(told_may_lay(stack, lot, number) for number in whole)
            ]
            self.assertEqual(laid_lots(stack), laid, stack)
            self.assertEqual(most_laid(stack), max(map(len, laid)), stack)
            self.assertEqual(stuck_lots(stack), stuck, stack)

    def test_by_rows_of_each_lot(self):
        for stack in (PATH, APART, STRIP, TAILED, RING_AND_ONE, PINCHED, THREE_APART):
            wanted = [
                lot for lot in told_lots(stack)
                if any(told_first_wrong(stack, row) is None for row in permutations(lot))
            ]
            self.assertEqual(laid_lots(stack), sorted(wanted))

    def test_they_rise(self):
        for stack in LOTTED:
            for lots in (laid_lots(stack), stuck_lots(stack)):
                self.assertIs(type(lots), list)
                self.assertEqual(lots, sorted(set(lots)))
            self.assertEqual(laid_lots(stack)[0], ())


class TestLeadsOn(unittest.TestCase):
    def test_told_out(self):
        self.assertIs(leads_on(PATH, ()), True)
        self.assertIs(leads_on(PATH, (0, 1)), True)
        self.assertIs(leads_on(APART, ()), False)
        self.assertIs(leads_on(APART, (1,)), False)
        self.assertIs(leads_on(STUCK, (0, 1, 2, 3)), False)
        self.assertIs(leads_on(STUCK, (0, 1, 2)), False)
        self.assertIs(leads_on(STUCK, (0, 1)), True)
        self.assertIs(leads_on(STUCK, tuple(range(9))), True)
        self.assertIs(leads_on(NOUGHT, ()), True)
        self.assertIs(leads_on(NOUGHT, (0,)), True)

    def test_each_lot(self):
        for stack in LOTTED:
            laid = told_laid(stack)
            onward = told_onward(stack)
            for lot in told_lots(stack):
                if lot in laid:
                    self.assertIs(leads_on(stack, lot), onward[lot] > 0, (stack, lot))
                else:
                    with self.assertRaises(NoLot):
                        leads_on(stack, lot)

    def test_what_is_no_lot(self):
        for stack in (NOUGHT, ALONE, PATH, STRIP, NINE, TEN, SEVENTY):
            whole = tuple(range(len(stack[2])))
            things = ODD + list(misshapen(whole[:4])) + [thing for odd in ODD for thing in swapped(whole[:4], odd)]
            things += [(len(whole),), whole + (len(whole),), (-1,) + whole, (0, 0), (1, 0), list(whole), "", [], {}]
            for thing in things:
                if not told_lot(stack, thing):
                    with self.assertRaises(NoLot):
                        leads_on(stack, thing)


class TestTooGreat(unittest.TestCase):
    def great(self, stack, ask, *asked):
        with self.assertRaises(LayError) as caught:
            ask(stack, *asked)
        self.assertIs(type(caught.exception), TooGreat)
        self.assertEqual((caught.exception.many, caught.exception.most), (len(stack[2]), 9))

    def test_nine_faces_are_not_too_many(self):
        self.assertEqual(len(NINE[2]), 9)
        for ask in ASKERS:
            ask(NINE)
        self.assertIs(leads_on(NINE, (0,)), True)

    def test_ten_and_more_are(self):
        self.assertEqual(len(TEN[2]), 10)
        for stack in GREAT:
            for ask in ASKERS:
                self.great(stack, ask)

    def test_leads_on_looks_at_the_lot_first(self):
        for stack in GREAT:
            whole = tuple(range(len(stack[2])))
            for lot in ((), (0,), (0, len(whole) - 1), whole):
                self.great(stack, leads_on, lot)
            for thing in (None, [0], (True,), (1, 0), (0, 0), (len(whole),), (-1,), "", 0):
                with self.assertRaises(NoLot):
                    leads_on(stack, thing)

    def test_a_lot_that_is_not_laid_comes_behind(self):
        self.assertNotIn((0, 8), told_laid(TWISTED_TEN))
        self.great(TWISTED_TEN, leads_on, (0, 8))

    def test_no_stack_comes_ahead(self):
        for thing in (None, TEN[2], list(TEN), (5, 2, list(TEN[2])), (4, 2, TEN[2]), (5, 2, TEN[2] * 8)):
            for ask in ASKERS:
                with self.assertRaises(NoStack):
                    ask(thing)
            with self.assertRaises(NoStack):
                leads_on(thing, None)

    def test_edges(self):
        for stack in EDGES:
            for ask in ASKERS:
                if len(stack[2]) > 9:
                    self.great(stack, ask)
                else:
                    ask(stack)


if __name__ == "__main__":
    unittest.main()
