"""Stage 2: faces laid, what they bring, orders (2.1 to 2.5)."""

import unittest
from itertools import permutations

from layfaces.errors import NoLot, NoNumber, NoOrder, NoRow, NoStack
from layfaces.laying import brings, brought, first_wrong, is_order, may_lay, new_parts
from samples import (
    ALONE, APART, APART_FOUR, EDGES, HINGED, NOUGHT, ODD, PATH, POINTS, SEVENTY, STRIP, TAILED, TRIANGLE, full,
    misshapen, no_stacks, one_of, small_stacks, swapped, told_brought, told_first_wrong, told_lots, told_may_lay,
    told_parts,
)

SMALL = small_stacks(4)
# All lots of these are gone through: five points, and some faces of six and of eight.
LOTTED = SMALL + [full(5, 2), full(5, 3), full(5, 4), HINGED, STRIP, TAILED, APART_FOUR]
LOTTED += [(6, 4, full(6, 4)[2][::2]), (8, 4, SEVENTY[2][::9]), (8, 3, full(8, 3)[2][::7])]


def some_of_seventy():
    """Some lots of all seventy faces, the same ones each time."""
    found = [(), tuple(range(69)), tuple(range(1, 70)), tuple(range(70))]
    for step in range(2, 14):
        for start in range(0, step, 3):
            found.append(tuple(range(start, 70, step)))
    return found


def each_case():
    for stack in LOTTED:
        for lot in told_lots(stack):
            for number in range(len(stack[2])):
                yield stack, lot, number
    for lot in some_of_seventy():
        for number in range(0, 70, 3):
            yield SEVENTY, lot, number


class TestMayLay(unittest.TestCase):
    def test_told_out(self):
        self.assertIs(may_lay(PATH, (), 1), True)
        self.assertIs(may_lay(PATH, (0,), 1), True)
        self.assertIs(may_lay(APART, (0,), 1), False)
        self.assertIs(may_lay(HINGED, (0,), 1), False)
        self.assertIs(may_lay(STRIP, (0, 2), 1), True)
        self.assertIs(may_lay(STRIP, (0, 3), 1), False)
        self.assertIs(may_lay(STRIP, (0, 1), 3), False)

    def test_by_the_words(self):
        for stack, lot, number in each_case():
            self.assertIs(may_lay(stack, lot, number), told_may_lay(stack, lot, number), (stack, lot, number))

    def test_on_the_empty_lot_each_may(self):
        for stack in SMALL + EDGES:
            for number in range(len(stack[2])):
                self.assertIs(may_lay(stack, (), number), True)

    def test_a_face_of_the_lot_may_not(self):
        for stack in SMALL + EDGES:
            for number in range(len(stack[2])):
                self.assertIs(may_lay(stack, (number,), number), False)

    def test_faces_of_one_point_may_always(self):
        self.assertIs(may_lay(POINTS, (0, 2), 1), True)
        self.assertIs(may_lay(POINTS, (0,), 2), True)


class TestBrought(unittest.TestCase):
    def test_told_out(self):
        self.assertEqual(brought(PATH, (0,), 1), (3,))
        self.assertEqual(brought(PATH, (1,), 0), (0,))
        self.assertEqual(brought(APART, (0,), 1), ())
        self.assertEqual(brought(TRIANGLE, (0, 1), 2), (1, 2))
        self.assertEqual(brought(POINTS, (0,), 1), (2,))
        self.assertEqual(brought(POINTS, (), 1), ())
        self.assertEqual(brought(NOUGHT, (), 0), ())
        self.assertEqual(brought(SEVENTY, tuple(range(69)), 69), (4, 5, 6, 7))

    def test_by_the_words(self):
        for stack, lot, number in each_case():
            if number not in lot:
                self.assertEqual(brought(stack, lot, number), told_brought(stack, lot, number), (stack, lot, number))

    def test_on_the_empty_lot_it_brings_none(self):
        for stack in SMALL + EDGES:
            for number in range(len(stack[2])):
                self.assertEqual(brought(stack, (), number), ())


class TestNewParts(unittest.TestCase):
    def test_told_out(self):
        self.assertEqual(new_parts(PATH, (), 0), [(), (0,), (0, 1), (1,)])
        self.assertEqual(new_parts(PATH, (0,), 1), [(1, 3), (3,)])
        self.assertEqual(new_parts(TRIANGLE, (0, 1), 2), [(1, 2)])
        self.assertEqual(new_parts(APART, (0,), 1), [(2,), (2, 3), (3,)])
        self.assertEqual(new_parts(NOUGHT, (), 0), [()])
        self.assertEqual(new_parts(POINTS, (1,), 0), [(0,)])
        self.assertEqual(len(new_parts(ALONE, (), 0)), 16)

    def test_by_the_words(self):
        for stack, lot, number in each_case():
            if number not in lot:
                laid = told_parts((stack[0], stack[1], [stack[2][each] for each in lot]))
                own = told_parts((stack[0], stack[1], [stack[2][number]]))
                wanted = sorted(set(own) - set(laid))
                self.assertEqual(new_parts(stack, lot, number), wanted, (stack, lot, number))

    def test_they_have_all_that_is_brought_just_where_it_may_be_laid(self):
        for stack in LOTTED:
            for lot in told_lots(stack):
                for number, face in enumerate(stack[2]):
                    if number not in lot:
                        points = set(brought(stack, lot, number))
                        own = told_parts((stack[0], stack[1], [face]))
                        having = [part for part in own if points <= set(part)]
                        same = new_parts(stack, lot, number) == having
                        self.assertIs(same, may_lay(stack, lot, number))


class TestOrders(unittest.TestCase):
    def test_told_out(self):
        self.assertIs(is_order(PATH, (0, 1)), True)
        self.assertIs(is_order(PATH, (1, 0)), True)
        self.assertIs(is_order(APART, (0, 1)), False)
        self.assertIs(is_order(STRIP, (1, 0, 2, 3)), True)
        self.assertIs(is_order(STRIP, (0, 2, 1, 3)), False)
        self.assertEqual(first_wrong(STRIP, (0, 2, 1, 3)), 1)
        self.assertEqual(first_wrong(STRIP, (1, 2, 3, 0)), None)
        self.assertEqual(first_wrong(STRIP, (1, 2, 0, 3)), None)
        self.assertEqual(first_wrong(STRIP, (0, 1, 3, 2)), 2)
        self.assertEqual(first_wrong(NOUGHT, (0,)), None)
        self.assertEqual(first_wrong(ALONE, (0,)), None)
        self.assertEqual(brings(TRIANGLE, (2, 0, 1)), [(), (0,), (0, 2)])
        self.assertEqual(brings(POINTS, (2, 0, 1)), [(), (0,), (2,)])
        self.assertEqual(brings(NOUGHT, (0,)), [()])
        self.assertEqual(brings(TAILED, (3, 1, 0, 2)), [(), (0,), (1,), (1, 2)])

    def test_each_row_by_the_words(self):
        for stack in SMALL + [HINGED, STRIP, full(5, 4), TAILED, (5, 3, full(5, 3)[2][2:8])]:
            for row in permutations(range(len(stack[2]))):
                wrong = told_first_wrong(stack, row)
                self.assertEqual(first_wrong(stack, row), wrong)
                self.assertIs(is_order(stack, row), wrong is None)
                if wrong is None:
                    wanted = [told_brought(stack, row[:place], number) for place, number in enumerate(row)]
                    self.assertEqual(brings(stack, row), wanted)
                else:
                    with self.assertRaises(NoOrder):
                        brings(stack, row)

    def test_all_seventy(self):
        rising = tuple(range(70))
        self.assertIs(is_order(SEVENTY, rising), True)
        told = brings(SEVENTY, rising)
        self.assertEqual([len(points) for points in told].count(4), 35)
        self.assertEqual((told[0], told[-1]), ((), (4, 5, 6, 7)))
        last_second = (0, 69) + rising[1:69]
        self.assertEqual(first_wrong(SEVENTY, last_second), 1)
        self.assertIs(is_order(SEVENTY, last_second), False)

    def test_the_first_wrong_place_may_be_the_last(self):
        stack = (6, 2, ((0, 1), (0, 2), (1, 2), (4, 5)))
        self.assertEqual(first_wrong(stack, (0, 1, 2, 3)), 3)
        self.assertEqual(first_wrong(stack, (3, 0, 1, 2)), 1)

    def test_each_part_is_new_with_just_one_face(self):
        for stack in SMALL + [STRIP, TAILED, full(5, 4)]:
            parts = told_parts(stack)
            for row in permutations(range(len(stack[2]))):
                if is_order(stack, row):
                    told = []
                    for place, number in enumerate(row):
                        told.extend(new_parts(stack, tuple(sorted(row[:place])), number))
                    self.assertEqual(sorted(told), parts)

    def test_is_order_of_anything(self):
        for stack in (NOUGHT, ALONE, POINTS, PATH, APART, TRIANGLE, STRIP, SEVENTY):
            rising = tuple(range(len(stack[2])))
            orders = [rising]
            if len(rising) < 5:
                orders = [row for row in permutations(rising) if told_first_wrong(stack, row) is None]
            elif not is_order(stack, rising):
                orders = []
            things = ODD + list(misshapen(rising[:4])) + [list(rising), rising[1:], rising[:-1]]
            things += [rising + (len(rising),), rising + (0,), rising[1:] + (len(rising),), (-1,) + rising[1:]]
            things += [thing for odd in ODD for thing in swapped(rising[:4], odd)]
            for thing in things:
                self.assertIs(is_order(stack, thing), one_of(thing, orders), (stack, thing))

    def test_truths_stand_for_no_faces(self):
        self.assertIs(is_order(PATH, (False, True)), False)
        self.assertIs(is_order(PATH, (0, True)), False)
        self.assertIs(is_order(NOUGHT, (False,)), False)

    def test_rows_refused(self):
        for stack in (NOUGHT, ALONE, POINTS, PATH, APART, TRIANGLE, STRIP):
            rows = list(permutations(range(len(stack[2]))))
            things = ODD + list(misshapen(rows[0])) + [thing for odd in ODD for thing in swapped(rows[0], odd)]
            for thing in things:
                if not one_of(thing, rows):
                    with self.assertRaises(NoRow):
                        first_wrong(stack, thing)
                    with self.assertRaises(NoOrder):
                        brings(stack, thing)


class TestRefused(unittest.TestCase):
    def test_lots(self):
        for stack in (NOUGHT, ALONE, POINTS, PATH, TRIANGLE, STRIP):
            lots = told_lots(stack)
            whole = lots[-1]
            things = ODD + list(misshapen(whole)) + [thing for odd in ODD for thing in swapped(whole, odd)]
            things += [(len(whole),), whole + (len(whole),), (-1,) + whole, (0, 0), "", [], {}]
            for thing in things:
                if not one_of(thing, lots):
                    for ask in (may_lay, brought, new_parts):
                        with self.assertRaises(NoLot):
                            ask(stack, thing, 0)

    def test_numbers_of_faces(self):
        for stack in EDGES:
            for thing in ODD + [len(stack[2])]:
                if not one_of(thing, range(len(stack[2]))):
                    for ask in (may_lay, brought, new_parts):
                        with self.assertRaises(NoNumber):
                            ask(stack, (), thing)

    def test_a_face_of_the_lot_brings_nothing(self):
        for stack in EDGES:
            for number in range(len(stack[2])):
                for lot in ((number,), tuple(range(len(stack[2])))):
                    for ask in (brought, new_parts):
                        with self.assertRaises(NoNumber):
                            ask(stack, lot, number)

    def test_stacks(self):
        asked = [
            lambda thing: may_lay(thing, (), 0), lambda thing: brought(thing, (), 0),
            lambda thing: new_parts(thing, (), 0), lambda thing: is_order(thing, (0, 1)),
            lambda thing: first_wrong(thing, (0, 1)), lambda thing: brings(thing, (0, 1)),
        ]
        for thing in no_stacks():
            for ask in asked:
                with self.assertRaises(NoStack):
                    ask(thing)


if __name__ == "__main__":
    unittest.main()
