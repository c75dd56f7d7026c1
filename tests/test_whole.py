"""The whole: what the points say with "so" and in brackets, of stacks that any part of the program tells."""

import unittest

from layfaces.bars import bar_for, is_bar
from layfaces.counted import by_brought, counts_from, evened, told, told_around
from layfaces.desk import Desk
from layfaces.errors import NoNumber, NoRim
from layfaces.joins import cone, joined, joined_order, named, named_back, put_on, shared_parts
from layfaces.kinds import first_unpushed, first_untraded, full_stack, named_order, pairs_stack, plain_order
from layfaces.kinds import ring_stack, row_stack
from layfaces.laying import brings, brought, first_wrong, is_order, may_lay, new_parts
from layfaces.near import far, is_way, leaned, link_order, near, pieces, some_way
from layfaces.orders import first_order, laid_lots, leads_on, many_orders, most_laid, stuck_lots
from layfaces.rims import is_shut, rim, rim_stack, stays_order, thick, turned_back
from layfaces.rounds import is_round, many_rounds, round_by
from layfaces.stacks import counts, is_part, is_stack, link, parts_of, sides, without
from layfaces.takings import is_taking, some_taking, takable, taken_order, taking_size
from layfaces.texts import read, shown
from samples import HINGED, LAID_UNTAKEN, LATER_TAKEN, PINCHED, STRIP, STUCK, TAILED, TWISTED, TWISTED_TEN

SEEDS = [
    full_stack(1, 0), full_stack(5, 1), full_stack(4, 2), full_stack(5, 3), full_stack(5, 4), pairs_stack(1),
    pairs_stack(3), pairs_stack(4), row_stack(2), row_stack(6), ring_stack(3), ring_stack(7), HINGED, LAID_UNTAKEN,
    LATER_TAKEN, PINCHED, STRIP, STUCK, TAILED, TWISTED, TWISTED_TEN, read("8 4: 1357"), read("6 2: 01 02 12 34 35 45"),
]


def all_parts(stack):
    return [part for many in range(stack[1] + 1) for part in parts_of(stack, many)]


def come_of(stack):
    """Stacks that the program tells of one."""
    found = [link(stack, part) for part in all_parts(stack)[::5]]
    for point in range(stack[0]):
        try:
            found.append(without(stack, point))
        except NoNumber:
            pass
    try:
        found.append(rim_stack(stack))
    except (NoNumber, NoRim):
        pass
    names = tuple(range(1, stack[0])) + (0,)
    found += [named(stack, names), put_on(stack, named(stack, names))]
    if stack[0] < 8 and stack[1] < 4:
        found += [cone(stack), joined(stack, (1, 1, ((0,),)))]
    if stack[0] < 6 and stack[1] < 3:
        found += [joined(stack, ring_stack(3)), joined(pairs_stack(1), stack)]
    return found


def told_stacks():
    """Stacks that come of the seeds, and some that come of these, each once."""
    found = dict.fromkeys(SEEDS)
    for stack in SEEDS:
        found.update(dict.fromkeys(come_of(stack)))
    for stack in list(found)[::17]:
        found.update(dict.fromkeys(come_of(stack)))
    return list(found)


def known_orders(stack):
    """Orders that the program tells of the stack."""
    found = [plain_order(stack), named_order(stack, tuple(range(stack[0]))[::-1])]
    if len(stack[2]) < 10:
        found.append(first_order(stack))
    if len(stack[2]) < 13 and (len(stack[2]) == 1 or some_taking(stack) is not None):
        found.append(taken_order(stack, some_taking(stack)))
    orders = [order for order in found if order is not None]
    orders += [turned_back(stack, order) for order in orders if stays_order(stack, order)]
    return list(dict.fromkeys(orders))


STACKS = told_stacks()
ORDERS = [(stack, order) for stack in STACKS for order in known_orders(stack)]
FEW = [stack for stack in STACKS if len(stack[2]) < 10]


class TestStacks(unittest.TestCase):
    def test_there_are_enough(self):
        self.assertGreater(len(STACKS), 250)
        self.assertGreater(len(ORDERS), 300)
        self.assertEqual({stack[1] for stack in STACKS}, {0, 1, 2, 3, 4})

    def test_each_is_a_stack_and_is_written_and_read_back(self):
        for stack in STACKS:
            self.assertIs(is_stack(stack), True)
            self.assertEqual(repr(read(shown(stack))), repr(stack))

    def test_parts_of_links(self):
        for stack in STACKS:
            for part in all_parts(stack)[::4]:
                wanted = [
                    other for other in all_parts(stack)
                    if not set(part) & set(other) and is_part(stack, tuple(sorted(part + other)))
                ]
                self.assertEqual(all_parts(link(stack, part)), wanted)

    def test_each_face_has_k_sides(self):
        for stack in STACKS:
            for number in range(len(stack[2])):
                self.assertEqual(len(sides(stack, number)), stack[1])

    def test_on_none_each_face_may_be_laid_and_brings_none(self):
        for stack in STACKS:
            for number in range(len(stack[2])):
                self.assertIs(may_lay(stack, (), number), True)
                self.assertEqual(brought(stack, (), number), ())

    def test_new_parts_have_all_points_brought_just_where_a_face_may_be_laid(self):
        for stack in STACKS[::2]:
            many = range(len(stack[2]))
            for lot in (tuple(many[::2]), tuple(many[:3]), tuple(many[1::3])):
                for number in [each for each in many if each not in lot][::3]:
                    points = set(brought(stack, lot, number))
                    face = (stack[0], stack[1], (stack[2][number],))
                    wanted = sorted(part for part in all_parts(face) if points <= set(part))
                    self.assertIs(new_parts(stack, lot, number) == wanted, may_lay(stack, lot, number))


class TestNumbers(unittest.TestCase):
    def test_counts_come_of_what_is_told(self):
        for stack in STACKS:
            self.assertEqual(counts_from(told(stack)), counts(stack))

    def test_the_sum_of_the_counts_is_the_last_told_number(self):
        for stack in STACKS:
            self.assertEqual(evened(stack), told(stack)[-1] * (-1) ** stack[1])

    def test_numbers_told_around(self):
        for stack in STACKS:
            if stack[1] > 0:
                numbers = told(stack)
                self.assertEqual(told_around(stack), tuple(
                    (i + 1) * numbers[i + 1] + (stack[1] - i) * numbers[i] for i in range(stack[1])
                ))

    def test_joined_numbers_are_multiplied(self):
        for one in STACKS[::5]:
            for other in STACKS[::7]:
                if one[0] + other[0] <= 8 and one[1] + other[1] <= 4:
                    sums = [0] * (one[1] + other[1] + 1)
                    for i, number in enumerate(told(one)):
                        for j, more in enumerate(told(other)):
                            sums[i + j] += number * more
                    self.assertEqual(told(joined(one, other)), tuple(sums))


class TestOrders(unittest.TestCase):
    def test_each_is_an_order(self):
        for stack, order in ORDERS:
            self.assertIs(is_order(stack, order), True)
            self.assertIsNone(first_wrong(stack, order))

    def test_each_part_is_new_with_just_one_face(self):
        for stack, order in ORDERS[::3]:
            new = []
            for place, number in enumerate(order):
                new += new_parts(stack, tuple(sorted(order[:place])), number)
            self.assertEqual(sorted(new), sorted(all_parts(stack)))

    def test_what_is_brought_is_what_is_told(self):
        for stack, order in ORDERS:
            self.assertEqual(by_brought(stack, order), told(stack))
            self.assertGreaterEqual(min(told(stack)), 0)

    def test_an_order_or_a_bar(self):
        found = set()
        for stack in FEW:
            order, bar = first_order(stack), bar_for(stack)
            self.assertIs(order is None, bar is not None)
            self.assertIs(order is None, many_orders(stack) == 0)
            self.assertIs(order is None, most_laid(stack) < len(stack[2]))
            if bar is not None:
                self.assertIs(is_bar(stack, bar), True)
                found.add(bar[0])
        self.assertEqual(found, {"less", "apart", "closed"})

    def test_laid_lots_and_what_they_lead_to(self):
        for stack in FEW[::4]:
            stuck = stuck_lots(stack)
            for lot in laid_lots(stack):
                if leads_on(stack, lot):
                    self.assertNotIn(lot, stuck)

    def test_traded_and_pushed_stacks_can_be_laid_as_they_stand(self):
        for stack in STACKS:
            if first_untraded(stack) is None or first_unpushed(stack) is None:
                self.assertEqual(plain_order(stack), tuple(range(len(stack[2]))))
                self.assertIs(is_order(stack, plain_order(stack)), True)
            if first_untraded(stack) is None:
                names = tuple(range(2, stack[0])) + tuple(range(min(2, stack[0])))
                self.assertIs(is_order(stack, named_order(stack, names)), True)

    def test_orders_of_shut_stacks(self):
        asked = 0
        for stack, order in ORDERS:
            if is_shut(stack):
                asked += 1
                self.assertIs(stays_order(stack, order), True)
                self.assertEqual(told(stack), told(stack)[::-1])
                forth = brings(stack, order)
                back = brings(stack, turned_back(stack, order))[::-1]
                for number, points, others in zip(order, forth, back):
                    self.assertEqual(tuple(sorted(points + others)), stack[2][number])
                many = [len(points) for points in forth]
                self.assertEqual((many[0], many.count(0)), (0, 1))
                self.assertEqual((many[-1], many.count(stack[1])), (stack[1], 1))
        self.assertGreater(asked, 30)

    def test_rims_of_stacks_with_an_order(self):
        asked = 0
        for stack, order in ORDERS:
            if stack[1] > 1 and not thick(stack) and rim(stack):
                asked += 1
                self.assertIs(is_shut(rim_stack(stack)), True)
        self.assertGreater(asked, 30)

    def test_cones_have_the_same_orders(self):
        for stack, order in ORDERS:
            if stack[0] < 8 and stack[1] < 4:
                self.assertEqual(brings(cone(stack), order), brings(stack, order))
        for stack in FEW[::5]:
            if stack[0] < 8 and stack[1] < 4:
                self.assertEqual(many_orders(cone(stack)), many_orders(stack))

    def test_joined_orders(self):
        asked = 0
        for one, order in ORDERS[::3]:
            for other, another in ORDERS[::7]:
                if one[0] + other[0] <= 8 and one[1] + other[1] <= 4:
                    asked += 1
                    found = joined_order(one, other, order, another)
                    self.assertEqual(brings(joined(one, other), found), [
                        points + tuple(point + one[0] for point in more)
                        for points in brings(one, order) for more in brings(other, another)
                    ])
        self.assertGreater(asked, 50)

    def test_a_desk_lays_them(self):
        for stack, order in ORDERS[::6]:
            desk = Desk()
            desk.say("stack " + shown(stack))
            words = shown(stack).split(" ")[2:]
            for number in order:
                self.assertEqual(desk.say("lay " + words[number]), "ok")
            self.assertEqual(desk.say("done"), "yes")
            self.assertEqual(desk.say("laid"), " ".join(words[number] for number in order))
            self.assertEqual([
                () if word == "-" else tuple(map(int, word)) for word in desk.say("brings").split(" ")
            ], brings(stack, order))


class TestTakings(unittest.TestCase):
    def test_what_can_be_taken_apart_can_be_laid(self):
        asked = 0
        for stack in STACKS:
            taking = some_taking(stack) if len(stack[2]) < 13 else None
            if taking is not None:
                asked += 1
                self.assertIs(is_taking(stack, taking), True)
                self.assertIn(taking[0], takable(stack))
                self.assertIs(is_taking(without(stack, taking[0]), taking[1]), True)
                self.assertIs(is_taking(link(stack, (taking[0],)), taking[2]), True)
                self.assertEqual(taking_size(stack, taking), len(stack[2]) - 1)
                self.assertIs(is_order(stack, taken_order(stack, taking)), True)
        self.assertGreater(asked, 60)


class TestTogether(unittest.TestCase):
    def test_names_and_names_back(self):
        for stack in STACKS:
            names = tuple(range(stack[0]))[::-1][1:] + (stack[0] - 1,)
            back = named_back(stack, names)
            self.assertEqual(named(named(stack, names), back), stack)
            self.assertEqual(named_back(stack, back), names)

    def test_put_on_and_shared_parts(self):
        for stack in STACKS:
            other = named(stack, tuple(range(1, stack[0])) + (0,))
            both = put_on(stack, other)
            self.assertEqual(put_on(other, stack), both)
            shared = shared_parts(stack, other)
            self.assertEqual(shared_parts(other, stack), shared)
            many = len(all_parts(stack)) + len(all_parts(other)) - len(all_parts(both))
            self.assertEqual(len(shared), many)


class TestNeighbours(unittest.TestCase):
    def test_a_stack_with_an_order_is_of_one_piece(self):
        for stack, order in ORDERS:
            self.assertEqual(pieces(stack), [tuple(range(len(stack[2])))])

    def test_ways(self):
        for stack in STACKS[::3]:
            found = pieces(stack)
            for one in range(len(stack[2]))[::4]:
                for other in range(len(stack[2]))[::5]:
                    way = some_way(stack, one, other)
                    together = any(one in piece and other in piece for piece in found)
                    self.assertIs(way is not None, together)
                    self.assertEqual(far(stack, one, other), len(way) - 1 if together else None)
                    self.assertIs(is_way(stack, one, other, way), together)

    def test_each_face_leans_on_one_ahead(self):
        for stack, order in ORDERS:
            for place, lean in enumerate(leaned(stack, order), 1):
                self.assertIn(lean, order[:place])
                self.assertIn(lean, near(stack, order[place]))

    def test_orders_of_links(self):
        for stack, order in ORDERS[::2]:
            brought_by = dict(zip(order, brings(stack, order)))
            for part in all_parts(stack)[::6]:
                found = link_order(stack, order, part)
                having = [number for number in order if set(part) <= set(stack[2][number])]
                self.assertEqual(brings(link(stack, part), found), [
                    tuple(point for point in brought_by[number] if point not in part) for number in having
                ])

    def test_rounds(self):
        asked = 0
        for stack, order in ORDERS:
            if stack[1] > 0:
                self.assertEqual(many_rounds(stack), 2 ** told(stack)[-1])
                found = brings(stack, order)
                whole = [number for number, points in zip(order, found) if len(points) == stack[1]]
                for number in whole[::2]:
                    asked += 1
                    lot = round_by(stack, order, number)
                    self.assertIs(is_round(stack, lot), True)
                    self.assertEqual([each for each in lot if each in whole], [number])
        self.assertGreater(asked, 100)


if __name__ == "__main__":
    unittest.main()
