"""Stage 3: what bars a stack from having an order (3.3, 3.4)."""

import unittest
from itertools import combinations

from layfaces.bars import bar_for, is_bar
from layfaces.counted import told
from layfaces.errors import LayError, NoStack, TooGreat
from layfaces.orders import many_orders
from samples import (
    ALONE, APART, APART_FOUR, EDGES, FOURTEEN, HINGED, NINE, NOUGHT, ODD, PATH, PINCHED, POINTS, RING_AND_ONE,
    SEVENTY, STRIP, STUCK, TAILED, TEN, THREE_APART, TRIANGLE, TWISTED, TWISTED_TEN, full, misshapen, nested,
    small_stacks, swapped, told_apart, told_bar, told_closed, told_laid, told_lots, told_numbers, told_parts,
    told_stack,
)

SMALL = small_stacks(4)
FIVE = [
    (5, k, some) for k in (2, 3) for many in (3, 4, 6, 9)
    for some in list(combinations(combinations(range(5), k), many))[::5]
]
NINE_AT_MOST = SMALL + FIVE + [
    HINGED, STRIP, TAILED, APART_FOUR, THREE_APART, RING_AND_ONE, PINCHED, TWISTED, STUCK, NINE, POINTS, ALONE,
]


def told_bar_for(stack):
    """The words of 3.4, one for one."""
    below = [i for i, number in enumerate(told_numbers(stack)) if number < 0]
    if below:
        return ("less", below[0])
    parts = [part for part in told_parts(stack) if len(part) <= stack[1] - 2 and told_apart(stack, part)]
    if parts:
        return ("apart", min(parts, key=lambda part: (len(part), part)))
    laid = told_laid(stack)
    return None if tuple(range(len(stack[2]))) in laid else ("closed", tuple(laid))


class TestBarFor(unittest.TestCase):
    def test_told_out(self):
        self.assertEqual(bar_for(APART), ("less", 2))
        self.assertEqual(bar_for(HINGED), ("less", 2))
        self.assertEqual(bar_for(APART_FOUR), ("less", 2))
        self.assertEqual(bar_for(RING_AND_ONE), ("apart", ()))
        self.assertEqual(bar_for(PINCHED), ("apart", (4,)))
        self.assertEqual(bar_for(TWISTED), ("closed", tuple(told_laid(TWISTED))))
        for stack in (NOUGHT, ALONE, POINTS, PATH, TRIANGLE, STRIP, STUCK, NINE):
            self.assertIsNone(bar_for(stack))

    def test_by_the_words(self):
        kinds = set()
        for stack in NINE_AT_MOST:
            bar = bar_for(stack)
            self.assertEqual(bar, told_bar_for(stack), stack)
            self.assertIs(bar is None, many_orders(stack) > 0)
            if bar is not None:
                self.assertIs(type(bar), tuple)
                self.assertIs(is_bar(stack, bar), True)
            kinds.add(bar and bar[0])
        self.assertEqual(kinds, {None, "less", "apart", "closed"})

    def test_the_first_part_of_several(self):
        one = (7, 3, ((0, 1, 2), (0, 1, 3), (0, 2, 3), (1, 2, 3), (4, 5, 6)))
        self.assertEqual(bar_for(one), told_bar_for(one))
        two = (7, 3, tuple(sorted(full(4, 3)[2] + ((3, 4, 5), (3, 4, 6), (3, 5, 6), (4, 5, 6)))))
        self.assertEqual(bar_for(two), ("apart", (3,)))

    def test_ten_faces_are_too_great(self):
        for stack in (TEN, TWISTED_TEN, FOURTEEN, full(5, 3), full(8, 2), SEVENTY):
            with self.assertRaises(LayError) as caught:
                bar_for(stack)
            self.assertIs(type(caught.exception), TooGreat)
            self.assertEqual((caught.exception.many, caught.exception.most), (len(stack[2]), 9))

    def test_no_stack_comes_ahead(self):
        for thing in ODD + [TEN[2], list(TEN), (4, 2, TEN[2]), (8, 4, SEVENTY[2] * 2)]:
            with self.assertRaises(NoStack):
                bar_for(thing)


class TestLess(unittest.TestCase):
    def test_each_number(self):
        for stack in SMALL + EDGES + [THREE_APART, PINCHED, TWISTED, TWISTED_TEN, FOURTEEN]:
            for i in range(-2, 7):
                wanted = 0 <= i <= stack[1] and told(stack)[i] < 0
                self.assertIs(is_bar(stack, ("less", i)), wanted, (stack, i))

    def test_told_of_great_stacks(self):
        self.assertIs(is_bar(FOURTEEN, ("less", 4)), True)
        self.assertIs(is_bar(FOURTEEN, ("less", 3)), False)
        self.assertIs(is_bar(FOURTEEN, ("less", -1)), False)
        self.assertIs(is_bar(SEVENTY, ("less", 4)), False)

    def test_any_of_several(self):
        stack = (8, 4, ((0, 1, 2, 3), (0, 4, 5, 6), (1, 4, 5, 7)))
        below = [i for i, number in enumerate(told(stack)) if number < 0]
        self.assertGreater(len(below), 1)
        for i in below:
            self.assertIs(is_bar(stack, ("less", i)), True)

    def test_a_truth_is_no_number(self):
        for stack in (APART, HINGED, FOURTEEN, POINTS):
            for truth in (True, False):
                self.assertIs(is_bar(stack, ("less", truth)), False)


class TestApart(unittest.TestCase):
    def test_told_out(self):
        self.assertIs(is_bar(APART, ("apart", ())), True)
        self.assertIs(is_bar(RING_AND_ONE, ("apart", ())), True)
        self.assertIs(is_bar(RING_AND_ONE, ("apart", (3,))), False)
        self.assertIs(is_bar(PINCHED, ("apart", (4,))), True)
        self.assertIs(is_bar(PINCHED, ("apart", ())), False)
        self.assertIs(is_bar(HINGED, ("apart", (0,))), True)
        self.assertIs(is_bar(APART_FOUR, ("apart", ())), True)
        self.assertIs(is_bar(FOURTEEN, ("apart", (0, 1))), True)
        self.assertIs(is_bar(FOURTEEN, ("apart", (0,))), False)
        self.assertIs(is_bar(TWISTED_TEN, ("apart", ())), False)

    def test_at_most_k_less_two_points(self):
        # These links have faces of one point or none: they have no point in common, but are no bars.
        self.assertIs(is_bar(PATH, ("apart", (1,))), False)
        self.assertIs(is_bar(STRIP, ("apart", (1, 2))), False)
        self.assertIs(is_bar(POINTS, ("apart", ())), False)
        self.assertIs(is_bar(NOUGHT, ("apart", ())), False)

    def test_each_part_and_what_is_none(self):
        for stack in NINE_AT_MOST + [TEN, TWISTED_TEN, full(5, 3)]:
            parts = told_parts(stack)
            for part in parts:
                wanted = len(part) <= stack[1] - 2 and told_apart(stack, part)
                self.assertIs(is_bar(stack, ("apart", part)), wanted, (stack, part))
            for points in ((stack[0],), (-1,), (0, 0), (1, 0), [], [0], 0, None, (False,), (True,)):
                if points not in parts or type(points) is not tuple:
                    self.assertIs(is_bar(stack, ("apart", points)), False)

    def test_a_long_chain_does_not_fall_apart(self):
        chain = (8, 2, tuple((point, point + 1) for point in range(7)))
        self.assertIs(is_bar(chain, ("apart", ())), False)
        broken = (8, 2, chain[2][:3] + chain[2][4:])
        self.assertIs(is_bar(broken, ("apart", ())), True)
        wound = (8, 2, ((0, 4), (0, 7), (1, 5), (1, 6), (2, 5), (2, 7), (3, 6)))
        self.assertIs(is_bar(wound, ("apart", ())), False)

    def test_a_point_in_no_face(self):
        stack = (6, 3, HINGED[2])
        self.assertIs(is_bar(stack, ("apart", (5,))), False)
        self.assertIs(is_bar(stack, ("apart", (0,))), True)


class TestClosed(unittest.TestCase):
    def test_told_out(self):
        self.assertIs(is_bar(APART, ("closed", ((), (0,), (1,)))), True)
        self.assertIs(is_bar(APART, ("closed", ((), (0,)))), False)
        self.assertIs(is_bar(APART, ("closed", ((0,), (1,)))), False)
        self.assertIs(is_bar(APART, ("closed", ((), (0,), (0, 1), (1,)))), False)
        self.assertIs(is_bar(APART, ("closed", ((), (1,), (0,)))), False)
        self.assertIs(is_bar(APART, ("closed", ((), (), (0,), (1,)))), False)
        self.assertIs(is_bar(APART, ("closed", ())), False)
        self.assertIs(is_bar(APART, ("closed", ((),))), False)
        self.assertIs(is_bar(NOUGHT, ("closed", ((),))), False)
        self.assertIs(is_bar(NOUGHT, ("closed", ((), (0,)))), False)

    def test_lots_beyond_the_laid_ones(self):
        laid = told_laid(THREE_APART)
        self.assertEqual(laid, [(), (0,), (1,), (2,)])
        for more in ([], [(0, 1)], [(0, 2)], [(1, 2)], [(0, 1), (0, 2)], [(0, 1), (0, 2), (1, 2)]):
            self.assertIs(is_bar(THREE_APART, ("closed", tuple(sorted(laid + more)))), True)
        laid = told_laid(RING_AND_ONE)
        for more in told_lots(RING_AND_ONE):
            if more not in laid:
                lots = tuple(sorted(laid + [more]))
                self.assertIs(is_bar(RING_AND_ONE, ("closed", lots)), told_closed(RING_AND_ONE, lots), more)

    def test_a_lot_beyond_leads_on_too(self):
        # Faces of the points 0 1 2 and of 3 4 5 6; two edges that don't meet, and one that meets both.
        stack = (7, 2, ((0, 1), (1, 2), (3, 4), (4, 5), (5, 6)))
        laid = told_laid(stack)
        self.assertIs(is_bar(stack, ("closed", tuple(laid))), True)
        self.assertNotIn((2, 4), laid)
        self.assertNotIn((0, 2, 4), laid)
        for more in ([(2, 4)], [(0, 2, 4)], [(1, 3), (0, 3)], told_lots(stack)[:-1]):
            lots = tuple(sorted(set(laid + more)))
            self.assertIs(is_bar(stack, ("closed", lots)), told_closed(stack, lots), more)

    def test_all_tuples_of_lots(self):
        stacks = [stack for stack in SMALL if len(stack[2]) <= 3] + [THREE_APART]
        seen = set()
        for stack in stacks[::3] + [APART, THREE_APART]:
            lots = sorted(told_lots(stack))
            for many in range(len(lots) + 1):
                for some in combinations(lots, many):
                    found = is_bar(stack, ("closed", some))
                    self.assertIs(found, told_closed(stack, some), (stack, some))
                    seen.add(found)
        self.assertEqual(seen, {True, False})

    def test_one_less_or_one_more(self):
        for stack in (TWISTED, RING_AND_ONE, PINCHED, TWISTED_TEN, FOURTEEN):
            laid = told_laid(stack) if stack != FOURTEEN else [()] + [(number,) for number in range(14)]
            self.assertIs(is_bar(stack, ("closed", tuple(laid))), True)
            self.assertIs(is_bar(stack, ("closed", laid)), False)
            self.assertIs(is_bar(stack, ("closed", tuple(laid[::-1]))), False)
            self.assertIs(is_bar(stack, ("closed", tuple(map(list, laid)))), False)
            whole = tuple(range(len(stack[2])))
            self.assertIs(is_bar(stack, ("closed", tuple(sorted(laid + [whole])))), False)
            for lot in laid:
                rest = tuple(each for each in laid if each != lot)
                self.assertIs(is_bar(stack, ("closed", rest)), False)
                self.assertIs(is_bar(stack, ("closed", tuple(sorted(laid + [lot])))), False)

    def test_fourteen_faces_of_which_no_two_can_be_laid(self):
        lots = [()] + [(number,) for number in range(14)]
        pairs = list(combinations(range(14), 2))
        self.assertIs(is_bar(FOURTEEN, ("closed", tuple(sorted(lots + pairs)))), True)
        self.assertIs(is_bar(FOURTEEN, ("closed", tuple(sorted(lots + pairs + [(0, 14)])))), False)

    def test_no_lots_close_a_stack_that_has_an_order(self):
        for stack in (PATH, TRIANGLE, STRIP, TAILED):
            lots = sorted(told_lots(stack))
            whole = tuple(range(len(stack[2])))
            self.assertIs(is_bar(stack, ("closed", tuple(lots))), False)
            self.assertIs(is_bar(stack, ("closed", tuple(lot for lot in lots if lot != whole))), False)

    def test_seventy_faces(self):
        singles = ((),) + tuple((number,) for number in range(70))
        self.assertIs(is_bar(SEVENTY, ("closed", singles)), False)
        self.assertIs(is_bar(SEVENTY, ("closed", ((), tuple(range(70))))), False)


class TestAnything(unittest.TestCase):
    def test_odd_things(self):
        for stack in EDGES + [TWISTED, TEN, FOURTEEN]:
            for thing in ODD:
                self.assertIs(is_bar(stack, thing), False, (stack, thing))
                for kind in ("less", "apart", "closed"):
                    answer = is_bar(stack, (kind, thing))
                    self.assertIs(type(answer), bool)
                    if len(stack[2]) < 10:
                        self.assertIs(answer, told_bar(stack, (kind, thing)), (stack, kind, thing))

    def test_bars_with_odd_things_at_each_place(self):
        for stack in (APART, HINGED, RING_AND_ONE, PINCHED, THREE_APART):
            bars = [bar_for(stack), ("closed", tuple(told_laid(stack)))]
            bars += [("apart", part) for part in ((), (0,), (4,)) if told_bar(stack, ("apart", part))]
            for bar in bars:
                self.assertIs(is_bar(stack, bar), True)
                things = list(misshapen(bar)) + [thing for odd in ODD[::2] for thing in swapped(bar, odd)]
                for thing in things:
                    self.assertIs(is_bar(stack, thing), told_bar(stack, thing), (stack, thing))

    def test_other_forms(self):
        for thing in (
            ["less", 2], ("less",), ("less", 2, 2), ("less ", 2), ("Less", 2), ("", 2), (2, "less"), "less",
            ("less", "2"), ("less", (2,)), ("less", [2]), {"less": 2}, (("less",), 2), (["less"], 2), ({"less": 2}, 2), ("apart", 2),
            ("apart",), ("apart", []), ("apart", ""), ("apart", None), ("apart", {}), ("closed",), ("closed", None),
            ("closed", [(), (0,), (1,)]), ("closed", ((), (0,), [1])), ("closed", ((), (False,), (1,))),
            ("closed", ((), (0,), (True,))), ("closed", {(): 0, (0,): 0, (1,): 0}), ("closed", "", ""),
            ("closed", ((), (0,), (1,)), ()), ("closed", (None, (0,), (1,))), ("closed", ((), (0,), 1)),
            ("closed", ((), (0,), (2,))), ("closed", ((-1,), (), (0,), (1,))), ("closed", ((), (0,), (1, 1))),
            (True, 2), (None, 2), ("less", True), ("less", None), ("less", 10 ** 30), ("less", -(10 ** 30)),
        ):
            self.assertIs(is_bar(APART, thing), False, thing)

    def test_deeply_nested(self):
        for wrap in (lambda thing: ("closed", (thing,)), lambda thing: ("less", thing), lambda thing: ("apart", thing)):
            for deep in (5, 10, 20):
                self.assertIs(is_bar(APART, nested(wrap, deep)), False)

    def test_no_stack_comes_ahead(self):
        for stack in [thing for odd in ODD[::3] for thing in swapped(APART, odd)] + list(misshapen(APART)):
            if not told_stack(stack):
                for thing in (("less", 2), None, ("closed", 0), []):
                    with self.assertRaises(NoStack):
                        is_bar(stack, thing)

    def test_a_stack_that_has_a_bar_has_no_order(self):
        for stack in NINE_AT_MOST:
            bars = [("less", i) for i in range(stack[1] + 1)] + [("apart", part) for part in told_parts(stack)]
            bars.append(("closed", tuple(told_laid(stack))))
            if any(is_bar(stack, bar) for bar in bars):
                self.assertEqual(many_orders(stack), 0)


if __name__ == "__main__":
    unittest.main()
