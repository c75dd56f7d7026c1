"""What holds for everything (0.2 to 0.5): the very class, the left one first, nothing changed, lists of one's own."""

import copy
import inspect
import unittest

from layfaces import bars, counted, desk, joins, kinds, laying, near, orders, rims, rounds, stacks, takings, texts
from layfaces.errors import (
    LayError, NoLine, NoLot, NoNames, NoNumber, NoOrder, NoPart, NoRim, NoRow, NoStack, NoTaking, NoText, TooGreat,
)
from samples import (
    ALONE, APART, EDGES, HINGED, NINE, NOUGHT, ODD, PATH, PINCHED, POINTS, RING_AND_ONE, SEVENTY, STRIP, STUCK,
    TAILED, TEN, TRIANGLE, nested,
)

GOOD_FIVE = (6, 3, ((0, 1, 2), (0, 1, 3), (0, 2, 3), (1, 2, 3), (1, 2, 4)))

NO_STACKS = [
    None, True, 0, "3 2: 01 02 12", [], {}, (), (3, 2), [6, 3, ((0, 1, 2),)], (9, 3, ((0, 1, 2),)),
    (0, 0, ((),)), (8, 5, ((0, 1, 2, 3, 4),)), (8, -1, ((),)), (2, 3, ((0, 1, 2),)), (6, 3, ()),
    (6, 3, [(0, 1, 2)]), (6, 3, ([0, 1, 2],)), (6, 3, ((0, 2, 1),)), (6, 3, ((0, 1, 6),)),
    (6, True, ((0,),)), (True, 0, ((),)), (6, 3, ((False, True, 2),)), (6, 3, ((0, 1, 2), (0, 1, 2))),
    (6, 3, ((0, 1, 3), (0, 1, 2))), (6, 3, None), (6, 3, {(0, 1, 2): 1}), (6, 3, ("012",)),
]
NO_NUMBERS = [-1, 10 ** 30, True, False, None, "", "1", (), (1,), [], [1], {}, {1: 1}]
NO_TUPLES = [0, -1, True, None, "", "0", [], [0], {}, {0: 0}, (True,), (False,), (None,), ("0",), ((),), ([0],), (-1,)]
NO_TUPLES += [(0, 0), (10 ** 30,), nested(lambda thing: (thing,), 20), nested(lambda thing: {0: [thing]}, 10)]

# Of each function: what it is rightly asked, and of each place what is due of what is none.
ASKED = [
    (stacks.is_part, (GOOD_FIVE, (0, 3)), [(NoStack, NO_STACKS)]),
    (stacks.parts_of, (GOOD_FIVE, 2), [(NoStack, NO_STACKS), (NoNumber, NO_NUMBERS + [4])]),
    (stacks.counts, (GOOD_FIVE,), [(NoStack, NO_STACKS)]),
    (stacks.sides, (GOOD_FIVE, 3), [(NoStack, NO_STACKS), (NoNumber, NO_NUMBERS + [5])]),
    (stacks.link, (GOOD_FIVE, (1, 2)), [(NoStack, NO_STACKS), (NoPart, NO_TUPLES + [(1, 0), (0, 4), (5,), (6,)])]),
    (stacks.without, (GOOD_FIVE, 4), [(NoStack, NO_STACKS), (NoNumber, NO_NUMBERS + [6])]),
    (laying.is_order, (GOOD_FIVE, (0, 1, 2, 3, 4)), [(NoStack, NO_STACKS)]),
    (laying.first_wrong, (GOOD_FIVE, (4, 0, 1, 2, 3)), [
        (NoStack, NO_STACKS), (NoRow, NO_TUPLES + [(), (0, 1, 2, 3), (0, 1, 2, 3, 3), (0, 1, 2, 3, 5), (0, 1, 2, 3, 4, 5)]),
    ]),
    (laying.brings, (GOOD_FIVE, (1, 0, 2, 3, 4)), [
        (NoStack, NO_STACKS), (NoOrder, NO_TUPLES + [(), (1, 4, 0, 2, 3), (0, 1, 2, 3), (False, True, 2, 3, 4)]),
    ]),
]
for function in (laying.may_lay, laying.brought, laying.new_parts):
    taken = [] if function == laying.may_lay else [0, 2]
    ASKED.append((function, (GOOD_FIVE, (0, 2), 3), [
        (NoStack, NO_STACKS), (NoLot, NO_TUPLES + [(1, 0), (2, 2), (5,), (0, True)]), (NoNumber, NO_NUMBERS + [5] + taken),
    ]))
for function in (
    orders.first_order, orders.many_orders, orders.laid_lots, orders.most_laid, orders.stuck_lots, bars.bar_for,
    counted.told, counted.evened, counted.told_around, kinds.first_untraded, kinds.first_unpushed, kinds.plain_order,
):
    ASKED.append((function, (GOOD_FIVE,), [(NoStack, NO_STACKS)]))
ASKED += [
    (orders.leads_on, (GOOD_FIVE, (0, 1)), [
        (NoStack, NO_STACKS), (NoLot, NO_TUPLES + [(1, 0), (2, 2), (5,), (0, True), (1, 4), (0, 1, 5)]),
    ]),
    (bars.is_bar, (APART, ("apart", ())), [(NoStack, NO_STACKS)]),
    (counted.counts_from, ((1, 2, 3),), [
        (NoRow, [each for each in NO_TUPLES if each not in ((-1,), (0, 0))] + [(), (1,) * 6, (1, 10 ** 6 + 1)]),
    ]),
    (counted.by_brought, (GOOD_FIVE, (1, 0, 2, 3, 4)), [
        (NoStack, NO_STACKS), (NoOrder, NO_TUPLES + [(), (1, 4, 0, 2, 3), (0, 1, 2, 3), (False, True, 2, 3, 4)]),
    ]),
    (kinds.full_stack, (5, 2), [(NoNumber, NO_NUMBERS + [0, 9]), (NoNumber, NO_NUMBERS + [5])]),
    (kinds.pairs_stack, (3,), [(NoNumber, NO_NUMBERS + [0, 5])]),
    (kinds.row_stack, (5,), [(NoNumber, NO_NUMBERS + [0, 1, 9])]),
    (kinds.ring_stack, (5,), [(NoNumber, NO_NUMBERS + [0, 2, 9])]),
    (kinds.named_order, (kinds.full_stack(4, 2), (3, 1, 0, 2)), [
        (NoStack, NO_STACKS), (NoNames, NO_TUPLES + [(), (0, 1, 2), (0, 1, 2, 4), (0, 1, 2, 2), (False, True, 2, 3)]),
    ]),
]
NO_ORDERS = NO_TUPLES + [(), (1, 4, 0, 2, 3), (0, 1, 2, 3), (False, True, 2, 3, 4)]
NO_NAMES = NO_TUPLES + [(), (0, 1, 2, 3, 4), (0, 1, 2, 3, 4, 6), (0, 1, 2, 3, 4, 4), (False, True, 2, 3, 4, 5)]
GOOD_TAKING = (4, (3, None, (2, None, (0, None, None))), None)
NO_TAKINGS = NO_TUPLES + [(), (4, None, None), list(GOOD_TAKING), GOOD_TAKING[:2], GOOD_TAKING + (None,)]
NO_TAKINGS += [(5,) + GOOD_TAKING[1:], (4, GOOD_TAKING[1], (0, None, None)), (4, list(GOOD_TAKING[1]), None)]
GOOD_TWO = (2, 1, ((0,), (1,)))
ONE_LESS = (5, 3, GOOD_FIVE[2])
OTHER_K = (6, 2, ((0, 1),))
for function in (rims.rim, rims.thick, rims.is_shut, rims.rim_stack, takings.takable, takings.some_taking, joins.cone):
    ASKED.append((function, (GOOD_FIVE,), [(NoStack, NO_STACKS)]))
for function in (rims.turned_back, rims.stays_order):
    ASKED.append((function, (GOOD_FIVE, (1, 0, 2, 3, 4)), [(NoStack, NO_STACKS), (NoOrder, NO_ORDERS)]))
for function in (takings.taking_size, takings.taken_order):
    ASKED.append((function, (GOOD_FIVE, GOOD_TAKING), [(NoStack, NO_STACKS), (NoTaking, NO_TAKINGS + [None])]))
for function in (joins.named, joins.named_back):
    ASKED.append((function, (GOOD_FIVE, (5, 0, 4, 1, 3, 2)), [(NoStack, NO_STACKS), (NoNames, NO_NAMES)]))
for function in (joins.put_on, joins.shared_parts):
    ASKED.append((function, (GOOD_FIVE, (6, 3, ((0, 1, 5),))), [
        (NoStack, NO_STACKS), (NoStack, NO_STACKS + [ONE_LESS, OTHER_K]),
    ]))
ASKED += [
    (takings.may_take, (GOOD_FIVE, 4), [(NoStack, NO_STACKS), (NoNumber, NO_NUMBERS + [6])]),
    (takings.is_taking, (GOOD_FIVE, GOOD_TAKING), [(NoStack, NO_STACKS)]),
    (joins.joined, (GOOD_FIVE, GOOD_TWO), [(NoStack, NO_STACKS), (NoStack, NO_STACKS)]),
    (joins.joined_order, (GOOD_FIVE, GOOD_TWO, (1, 0, 2, 3, 4), (1, 0)), [
        (NoStack, NO_STACKS), (NoStack, NO_STACKS), (NoOrder, NO_ORDERS), (NoOrder, NO_TUPLES + [(), (1,), (0, 1, 2)]),
    ]),
]
GOOD_ORDER = (1, 0, 2, 3, 4)
for function in (near.pieces, rounds.many_rounds, texts.shown):
    ASKED.append((function, (GOOD_FIVE,), [(NoStack, NO_STACKS)]))
for function in (near.far, near.some_way):
    ASKED.append((function, (GOOD_FIVE, 0, 4), [
        (NoStack, NO_STACKS), (NoNumber, NO_NUMBERS + [5]), (NoNumber, NO_NUMBERS + [5]),
    ]))
ASKED += [
    (near.near, (GOOD_FIVE, 4), [(NoStack, NO_STACKS), (NoNumber, NO_NUMBERS + [5])]),
    (near.is_way, (GOOD_FIVE, 0, 4, (0, 4)), [
        (NoStack, NO_STACKS), (NoNumber, NO_NUMBERS + [5]), (NoNumber, NO_NUMBERS + [5]),
    ]),
    (near.leaned, (GOOD_FIVE, GOOD_ORDER), [(NoStack, NO_STACKS), (NoOrder, NO_ORDERS)]),
    (near.link_order, (GOOD_FIVE, GOOD_ORDER, (1, 2)), [
        (NoStack, NO_STACKS), (NoOrder, NO_ORDERS), (NoPart, NO_TUPLES + [(1, 0), (0, 4), (5,), (6,)]),
    ]),
    (rounds.is_round, (GOOD_FIVE, (0, 2)), [
        (NoStack, NO_STACKS), (NoLot, NO_TUPLES + [(1, 0), (2, 2), (5,), (0, True)]),
    ]),
    (rounds.round_by, (GOOD_FIVE, GOOD_ORDER, 3), [
        (NoStack, NO_STACKS), (NoOrder, NO_ORDERS), (NoNumber, NO_NUMBERS + [0, 1, 2, 4, 5]),
    ]),
    (texts.read, ("4 2: 01 13",), [
        (NoText, [thing for thing in NO_STACKS + NO_NUMBERS + NO_TUPLES if thing != "3 2: 01 02 12"]),
    ]),
]
# What takes anything but a stack: no answer of these is an error, once the stack is one.
LOOKERS = (stacks.is_part, laying.is_order, bars.is_bar, takings.is_taking)
MODULES = (stacks, laying, orders, bars, counted, kinds, rims, takings, joins, near, rounds, texts)
# What tells a list of numbers, not of tuples.
NUMBERS_TOLD = (takings.takable, near.near, near.leaned)


def lists_told():
    """Each call that tells a list."""
    for stack in EDGES:
        yield stacks.parts_of, (stack, stack[1])
        yield stacks.parts_of, (stack, 0)
        yield stacks.sides, (stack, 0)
        yield laying.new_parts, (stack, (), 0)
    for stack in (PATH, STRIP, TAILED, SEVENTY):
        yield laying.brings, (stack, tuple(range(len(stack[2]))))
    for stack in (APART, PATH, STRIP, PINCHED, RING_AND_ONE, STUCK, NINE):
        yield orders.laid_lots, (stack,)
        yield orders.stuck_lots, (stack,)
    for stack in (ALONE, HINGED, STRIP, PATH):
        yield rims.rim, (stack,)
    for stack in (POINTS, TAILED, SEVENTY):
        yield rims.thick, (stack,)
    for stack in (PATH, STRIP, TAILED, SEVENTY):
        yield takings.takable, (stack,)
        yield joins.shared_parts, (stack, stack)
        yield near.near, (stack, 1)
        yield near.pieces, (stack,)
        yield near.leaned, (stack, tuple(range(len(stack[2]))))
    yield near.pieces, (RING_AND_ONE,)
    yield joins.shared_parts, (PATH, APART)


class TestRefusals(unittest.TestCase):
    def due(self, wanted, function, asked):
        with self.assertRaises(LayError) as caught:
            function(*asked)
        self.assertIs(type(caught.exception), wanted, (function.__name__, asked))

    def test_all_functions_are_here(self):
        names = {function.__name__ for function, good, due in ASKED}
        self.assertEqual(names | {"is_stack"}, {
            "is_stack", "is_part", "parts_of", "counts", "sides", "link", "without",
            "may_lay", "brought", "new_parts", "is_order", "first_wrong", "brings",
            "first_order", "many_orders", "laid_lots", "most_laid", "stuck_lots", "leads_on", "is_bar", "bar_for",
            "told", "counts_from", "by_brought", "evened", "told_around",
            "full_stack", "pairs_stack", "row_stack", "ring_stack",
            "first_untraded", "first_unpushed", "plain_order", "named_order",
            "rim", "thick", "is_shut", "turned_back", "stays_order", "rim_stack",
            "may_take", "takable", "is_taking", "some_taking", "taking_size", "taken_order",
            "named", "named_back", "cone", "joined", "joined_order", "put_on", "shared_parts",
            "near", "pieces", "far", "some_way", "is_way", "leaned", "link_order",
            "is_round", "many_rounds", "round_by", "shown", "read",
        })

    def test_what_is_right_is_not_refused(self):
        for function, good, due in ASKED:
            function(*good)

    def test_the_very_class_at_each_place(self):
        for function, good, due in ASKED:
            for at, (wanted, things) in enumerate(due):
                for thing in things:
                    self.due(wanted, function, good[:at] + (thing,) + good[at + 1:])

    def test_of_two_wrong_ones_the_left_one_is_refused(self):
        for function, good, due in ASKED:
            for left in range(len(due)):
                for right in range(left + 1, len(due)):
                    for thing in due[left][1]:
                        for other in due[right][1]:
                            asked = good[:left] + (thing,) + good[left + 1:right] + (other,) + good[right + 1:]
                            self.due(due[left][0], function, asked)

    def test_a_wrong_stack_comes_ahead_of_anything(self):
        for function in LOOKERS:
            for thing in NO_STACKS:
                for other in ODD:
                    self.due(NoStack, function, (thing, other))

    def test_all_wrong(self):
        for function, good, due in ASKED:
            self.due(due[0][0], function, (None,) * len(good))
        self.due(NoNumber, stacks.without, (PATH, 1))
        self.due(NoOrder, laying.brings, (APART, (0, 1)))

    def test_names_are_refused_of_a_stack_that_is_not_traded(self):
        self.assertIsNone(kinds.named_order(APART, (0, 1, 2, 3)))
        self.due(NoNames, kinds.named_order, (APART, (0, 1, 2)))

    def test_no_points_come_ahead_of_no_rim(self):
        for function in (rims.rim, rims.thick, rims.rim_stack):
            self.due(NoNumber, function, (NOUGHT,))
        self.due(NoRim, rims.rim_stack, (TRIANGLE,))
        self.assertIs(rims.is_shut(NOUGHT), False)

    def test_no_points_come_ahead_of_no_lot_and_behind_no_order(self):
        for thing in NO_TUPLES + [(1,), ()]:
            self.due(NoNumber, rounds.is_round, (NOUGHT, thing))
        for thing in NO_TUPLES + [(1,), ()]:
            self.due(NoOrder, rounds.round_by, (NOUGHT, thing, 0))
        for thing in NO_NUMBERS + [0, 1]:
            self.due(NoNumber, rounds.round_by, (NOUGHT, (0,), thing))
        self.due(NoNumber, rounds.many_rounds, (NOUGHT,))

    def test_a_desk_refuses_what_is_no_line(self):
        for thing in NO_STACKS + NO_NUMBERS + NO_TUPLES + ODD:
            self.due(NoLine, desk.Desk().say, (thing,))

    def test_too_great_comes_behind_all_else(self):
        some, order = tuple(range(10)), tuple(range(70))
        for wanted, function, asked in [
            (TooGreat, takings.some_taking, (SEVENTY,)), (TooGreat, joins.cone, (SEVENTY,)),
            (TooGreat, joins.joined, (SEVENTY, PATH)), (NoStack, joins.joined, (SEVENTY, None)),
            (TooGreat, joins.joined_order, (SEVENTY, TEN, order, some)),
            (NoOrder, joins.joined_order, (SEVENTY, TEN, order, None)),
            (NoOrder, joins.joined_order, (SEVENTY, TEN, None, some)),
            (NoOrder, joins.joined_order, (SEVENTY, TEN, order[1:], some)),
            (NoStack, joins.joined_order, (SEVENTY, [], None, None)),
        ]:
            self.due(wanted, function, asked)

    def test_what_is_no_lot_comes_ahead_of_too_many_faces(self):
        for thing in NO_TUPLES + [(1, 0), (10,)]:
            self.due(NoLot, orders.leads_on, (TEN, thing))


class TestAnswers(unittest.TestCase):
    def test_lookers_answer_true_or_false(self):
        for thing in ODD:
            self.assertIs(stacks.is_stack(thing), False)
            for function in LOOKERS:
                self.assertIs(type(function(PATH, thing)), bool)
            self.assertIs(type(near.is_way(PATH, 0, 1, thing)), bool)

    def test_nothing_handed_in_is_changed(self):
        for function, good, due in ASKED:
            for at, (wanted, things) in enumerate(due):
                for thing in things + ODD:
                    asked = good[:at] + (thing,) + good[at + 1:]
                    kept = copy.deepcopy(asked)
                    try:
                        function(*asked)
                    except LayError:
                        pass
                    self.assertEqual(repr(asked), repr(kept))
        for thing in ODD:
            kept = copy.deepcopy(thing)
            stacks.is_stack(thing)
            for function in LOOKERS:
                function(PATH, thing)
            near.is_way(PATH, 0, 1, thing)
            for ask in (texts.read, desk.Desk().say):
                try:
                    ask(thing)
                except LayError:
                    pass
            self.assertEqual(repr(thing), repr(kept))

    def test_the_same_question_has_the_same_answer(self):
        for function, good, due in ASKED:
            told = function(*good)
            stacks.is_stack(EDGES[0])
            self.assertEqual(repr(function(*copy.deepcopy(good))), repr(told))

    def test_a_list_told_is_the_askers_own(self):
        for function, asked in lists_told():
            told = function(*asked)
            self.assertIs(type(told), list)
            kept = copy.deepcopy(told)
            told.append("mine")
            told[0:1] = []
            self.assertEqual(function(*asked), kept)

    def test_kinds_of_what_is_told(self):
        for stack in EDGES:
            self.assertIs(type(stacks.counts(stack)), tuple)
            self.assertIs(type(counted.told(stack)), tuple)
            self.assertIs(type(laying.brought(stack, (), 0)), tuple)
            self.assertTrue(stacks.is_stack(stacks.link(stack, stack[2][0][:1])))
        for function, asked in lists_told():
            wanted = int if function in NUMBERS_TOLD else tuple
            self.assertEqual({type(each) for each in function(*asked)} - {wanted}, set())

    def test_what_is_told_may_be_handed_in_again(self):
        for stack in EDGES:
            for part in stacks.parts_of(stack, stack[1] // 2):
                self.assertTrue(stacks.is_part(stack, part))
                self.assertTrue(stacks.is_stack(stacks.link(stacks.link(stack, part), ())))

    def test_orders_and_bars_told_may_be_handed_in_again(self):
        for stack in EDGES + [PINCHED, RING_AND_ONE, STUCK, NINE]:
            self.assertEqual(counted.counts_from(counted.told(stack)), stacks.counts(stack))
            if len(stack[2]) < 10:
                for lot in orders.laid_lots(stack):
                    self.assertIs(type(orders.leads_on(stack, lot)), bool)
                order, bar = orders.first_order(stack), bars.bar_for(stack)
                if order is None:
                    self.assertIs(bars.is_bar(stack, bar), True)
                else:
                    self.assertEqual(counted.by_brought(stack, order), counted.told(stack))

    def test_lists_rise(self):
        for function, asked in lists_told():
            if function not in (laying.brings, near.leaned):
                told = function(*asked)
                self.assertEqual(told, sorted(set(told)))


class TestInterface(unittest.TestCase):
    def test_arguments_and_files(self):
        wanted = {
            "stacks": {
                "is_stack": ["thing"], "is_part": ["stack", "thing"], "parts_of": ["stack", "many"],
                "counts": ["stack"], "sides": ["stack", "number"], "link": ["stack", "part"],
                "without": ["stack", "point"],
            },
            "laying": {
                "may_lay": ["stack", "lot", "number"], "brought": ["stack", "lot", "number"],
                "new_parts": ["stack", "lot", "number"], "is_order": ["stack", "thing"],
                "first_wrong": ["stack", "row"], "brings": ["stack", "order"],
            },
            "orders": {
                "first_order": ["stack"], "many_orders": ["stack"], "laid_lots": ["stack"], "most_laid": ["stack"],
                "stuck_lots": ["stack"], "leads_on": ["stack", "lot"],
            },
            "bars": {"is_bar": ["stack", "thing"], "bar_for": ["stack"]},
            "counted": {
                "told": ["stack"], "counts_from": ["row"], "by_brought": ["stack", "order"], "evened": ["stack"],
                "told_around": ["stack"],
            },
            "kinds": {
                "full_stack": ["n", "k"], "pairs_stack": ["d"], "row_stack": ["n"], "ring_stack": ["n"],
                "first_untraded": ["stack"], "first_unpushed": ["stack"], "plain_order": ["stack"],
                "named_order": ["stack", "names"],
            },
            "rims": {
                "rim": ["stack"], "thick": ["stack"], "is_shut": ["stack"], "turned_back": ["stack", "order"],
                "stays_order": ["stack", "order"], "rim_stack": ["stack"],
            },
            "takings": {
                "may_take": ["stack", "point"], "takable": ["stack"], "is_taking": ["stack", "thing"],
                "some_taking": ["stack"], "taking_size": ["stack", "taking"], "taken_order": ["stack", "taking"],
            },
            "joins": {
                "named": ["stack", "names"], "named_back": ["stack", "names"], "cone": ["stack"],
                "joined": ["one", "other"], "joined_order": ["one", "other", "order", "another"],
                "put_on": ["one", "other"], "shared_parts": ["one", "other"],
            },
            "near": {
                "near": ["stack", "number"], "pieces": ["stack"], "far": ["stack", "one", "other"],
                "some_way": ["stack", "one", "other"], "is_way": ["stack", "one", "other", "thing"],
                "leaned": ["stack", "order"], "link_order": ["stack", "order", "part"],
            },
            "rounds": {
                "is_round": ["stack", "lot"], "many_rounds": ["stack"], "round_by": ["stack", "order", "number"],
            },
            "texts": {"shown": ["stack"], "read": ["text"]},
        }
        for module in MODULES:
            name = module.__name__.split(".")[1]
            for function, parameters in wanted[name].items():
                found = getattr(module, function)
                self.assertEqual(found.__module__, module.__name__)
                self.assertEqual(list(inspect.signature(found).parameters), parameters)

    def test_the_desk(self):
        self.assertEqual(desk.Desk.__module__, "layfaces.desk")
        self.assertEqual(list(inspect.signature(desk.Desk).parameters), [])
        self.assertIn("say", vars(desk.Desk))
        self.assertEqual(list(inspect.signature(desk.Desk.say).parameters)[1:], ["line"])


if __name__ == "__main__":
    unittest.main()
