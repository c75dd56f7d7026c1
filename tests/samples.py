"""What the tests share: stacks, odd things, and the document's words told the long way."""

from itertools import combinations, product
from math import comb


def full(n, k):
    return (n, k, tuple(combinations(range(n), k)))


def small_stacks(most):
    """Every stack of at most so many points."""
    found = []
    for n in range(1, most + 1):
        for k in range(min(n, 4) + 1):
            faces = list(combinations(range(n), k))
            for many in range(1, len(faces) + 1):
                found.extend((n, k, some) for some in combinations(faces, many))
    return found


NOUGHT = (1, 0, ((),))
ALONE = (8, 4, ((1, 3, 5, 7),))
POINTS = (5, 1, ((0,), (2,), (4,)))
TRIANGLE = (3, 2, ((0, 1), (0, 2), (1, 2)))
PATH = (4, 2, ((0, 1), (1, 3)))
APART = (4, 2, ((0, 1), (2, 3)))
TAILED = (6, 2, ((0, 1), (0, 2), (1, 2), (2, 4)))
HINGED = (5, 3, ((0, 1, 2), (0, 3, 4)))
STRIP = (6, 3, ((0, 1, 2), (1, 2, 3), (2, 3, 4), (3, 4, 5)))
APART_FOUR = (8, 4, ((0, 1, 2, 3), (4, 5, 6, 7)))
SEVENTY = full(8, 4)

THREE_APART = (6, 2, ((0, 1), (2, 3), (4, 5)))
RING_AND_ONE = (5, 2, ((0, 1), (0, 2), (1, 2), (3, 4)))
PINCHED = (5, 3, ((0, 1, 2), (0, 1, 3), (0, 1, 4), (0, 2, 3), (1, 2, 3), (2, 3, 4)))
# Barred though no told number is below 0 and no link falls apart.
TWISTED = (6, 3, ((0, 1, 3), (0, 1, 4), (0, 2, 3), (1, 2, 4), (2, 3, 4), (2, 3, 5), (2, 4, 5), (3, 4, 5)))
# It has orders, but whoever lays the first face that may be laid, each time, is stuck after four.
STUCK = (6, 3, (
    (0, 1, 2), (0, 1, 4), (0, 2, 5), (1, 2, 3), (1, 3, 5), (1, 4, 5), (2, 3, 4), (2, 4, 5), (3, 4, 5),
))
NINE = (5, 2, full(5, 2)[2][:9])
TEN = full(5, 2)
# Ten faces without an order: no told number is below 0, no link falls apart.
TWISTED_TEN = (6, 3, (
    (0, 1, 2), (0, 1, 3), (0, 2, 4), (0, 3, 5), (0, 4, 5), (1, 2, 5), (1, 3, 4), (1, 4, 5), (2, 3, 4), (2, 3, 5),
))
# Fourteen faces, each two of which have no point or two in common.
FOURTEEN = (8, 4, tuple(face for face in SEVENTY[2] if face[0] ^ face[1] ^ face[2] ^ face[3] == 0))

# It has orders, but no taking.
LAID_UNTAKEN = (6, 3, (
    (0, 1, 2), (0, 1, 3), (0, 1, 4), (0, 2, 3), (0, 2, 5), (1, 3, 4), (1, 4, 5), (2, 3, 5), (2, 4, 5), (3, 4, 5),
))
# It has takings, but none that begins with the first point that may be taken.
LATER_TAKEN = (6, 3, ((0, 1, 2), (0, 1, 4), (0, 1, 5), (1, 2, 5), (1, 3, 4)))

EDGES = [
    NOUGHT, (8, 0, ((),)), (1, 1, ((0,),)), full(8, 1), full(4, 4), full(5, 4), ALONE, POINTS, TRIANGLE,
    PATH, APART, TAILED, HINGED, STRIP, APART_FOUR, SEVENTY, full(8, 2), full(8, 3), (8, 2, ((6, 7),)),
]


def nested(wrap, deep):
    thing = 0
    for _ in range(deep - 1):
        thing = wrap(thing)
    return thing


# Things of every kind that the document calls "anything", none of them a number of 0 to 8.
ODD = [
    True, False, None, -1, 9, 71, 10 ** 30, -(10 ** 30), "", "0", "01", "3 2: 01 02 12", "a\nb ~" * 50,
    [], [0], [0, 1], [[0, 1]], {}, {0: 1}, {"n": (0, 1)}, {(0, 1): []},
    (True,), (None,), ("0",), ([],), ({},), ((),), (0, None), (None, 0), (0, (1,)), ((0,), 1),
    (0, True), (False, 1), (1, 0), (0, 0), (-1,), (-1, 0), (0, 10 ** 30), [(0, 1)], ([0], [1]),
    (3, 2), [3, 2, [[0, 1]]], (3, 2, ((0, 1),), 0),
    nested(lambda thing: (thing,), 20), nested(lambda thing: [thing], 20),
    nested(lambda thing: {0: thing}, 20), nested(lambda thing: (thing, [thing]), 12),
]


def swapped(thing, odd):
    """The thing with the odd one at each place in turn, its own place first."""
    yield odd
    if isinstance(thing, tuple):
        for at, inner in enumerate(thing):
            for other in swapped(inner, odd):
                yield thing[:at] + (other,) + thing[at + 1:]


def misshapen(thing):
    """The thing with one of its tuples as a list, turned round, or with one item twice, less or more."""
    if isinstance(thing, tuple):
        yield list(thing)
        yield thing[::-1]
        yield thing[1:]
        yield thing[:1] + thing
        yield thing + thing[-1:]
        yield thing + (None,)
        for at, inner in enumerate(thing):
            for other in misshapen(inner):
                yield thing[:at] + (other,) + thing[at + 1:]
    if type(thing) is int:
        yield thing - 1
        yield thing + 1
        yield thing == 1


def one_of(thing, things):
    """Whether it is one of the things, kinds and all: by repr, True is not 1, nor [] the same as ()."""
    return repr(thing) in {repr(each) for each in things}


def told_stack(thing):
    """Whether it is a stack, by the list of all faces that may stand in it."""
    if type(thing) is not tuple or len(thing) != 3:
        return False
    n, k, faces = thing
    if not one_of(n, range(1, 9)) or not one_of(k, range(5)) or k > n or type(faces) is not tuple:
        return False
    numbers = {repr(face): at for at, face in enumerate(combinations(range(n), k))}
    places = [numbers.get(repr(face)) for face in faces]
    return places != [] and None not in places and places == sorted(set(places))


def no_stacks():
    """Things much like PATH, none of them a stack."""
    things = [thing for odd in ODD for thing in swapped(PATH, odd)] + list(misshapen(PATH))
    return [thing for thing in things if not told_stack(thing)]


def told_parts(stack):
    return sorted({part for face in stack[2] for many in range(stack[1] + 1) for part in combinations(face, many)})


def told_lots(stack):
    numbers = range(len(stack[2]))
    return [lot for many in range(len(stack[2]) + 1) for lot in combinations(numbers, many)]


def told_lot(stack, thing):
    """Whether it is a lot, by the numbers of faces that may stand in it."""
    numbers = {repr(number): number for number in range(len(stack[2]))}
    if type(thing) is not tuple or any(repr(each) not in numbers for each in thing):
        return False
    return list(thing) == sorted(set(thing))


def told_may_lay(stack, lot, number):
    """The words of 2.1, one for one."""
    face = set(stack[2][number])
    laid = [set(stack[2][each]) for each in lot]
    if number in lot:
        return False
    return all(
        any(len(face & second) == stack[1] - 1 and face & first <= face & second for second in laid)
        for first in laid
    )


def told_brought(stack, lot, number):
    """The words of 2.2, one for one."""
    face = stack[2][number]
    laid = [set(stack[2][each]) for each in lot]
    return tuple(point for point in face if any(set(face) - {point} <= other for other in laid))


def told_first_wrong(stack, row):
    for place, number in enumerate(row):
        if not told_may_lay(stack, row[:place], number):
            return place
    return None


def told_orders(stack, most):
    """At most so many orders of the stack, the first ones as tuples compare, by the words of 2.4."""
    found = []

    def go(row):
        if len(row) == len(stack[2]):
            found.append(row)
        for number in range(len(stack[2])):
            if len(found) < most and told_may_lay(stack, row, number):
                go(row + (number,))

    go(())
    return found


def told_laid(stack):
    """The words of 3.2: each lot of which one face, laid last, may be laid on a laid one."""
    found = [()]
    for lot in told_lots(stack)[1:]:
        rests = [(tuple(each for each in lot if each != last), last) for last in lot]
        if any(rest in found and told_may_lay(stack, rest, last) for rest, last in rests):
            found.append(lot)
    return sorted(found)


def told_numbers(stack):
    """The words of 4.1, one for one."""
    k = stack[1]
    many = [sum(len(part) == j for part in told_parts(stack)) for j in range(k + 1)]
    return tuple(
        sum((-1) ** (i - j) * many[j] * comb(k - j, k - i) for j in range(i + 1)) for i in range(k + 1)
    )


def ring(n):
    return (n, 2, tuple(sorted([(at, at + 1) for at in range(n - 1)] + [(0, n - 1)])))


def pairs(d):
    return (2 * d, d, tuple(tuple(2 * i + picked for i, picked in enumerate(row)) for row in product((0, 1), repeat=d)))


# Each part of k - 1 points is in just two faces.
SHUT = [ring(n) for n in range(3, 9)] + [pairs(d) for d in range(1, 5)] + [full(k + 1, k) for k in range(1, 5)] + [
    (8, 1, ((3,), (6,))), (7, 2, ((1, 3), (1, 6), (3, 6))), TWISTED_TEN,
    (6, 2, ((0, 1), (0, 2), (1, 2), (3, 4), (3, 5), (4, 5))),
]


def told_apart(stack, part):
    """The words of 3.3 on a part whose link falls apart: its faces in two lots, in each way."""
    rests = [set(face) - set(part) for face in stack[2] if set(part) <= set(face)]
    for many in range(1, len(rests)):
        for some in combinations(range(len(rests)), many):
            others = [at for at in range(len(rests)) if at not in some]
            if not any(rests[at] & rests[other] for at in some for other in others):
                return True
    return False


def told_closed(stack, lots):
    """The words of 3.3 on lots that are closed, of a tuple of lots."""
    if list(lots) != sorted(set(lots)) or () not in lots or tuple(range(len(stack[2]))) in lots:
        return False
    return all(
        tuple(sorted(lot + (number,))) in lots
        for lot in lots for number in range(len(stack[2])) if told_may_lay(stack, lot, number)
    )


def told_bar(stack, thing):
    """The words of 3.3, one for one."""
    if type(thing) is not tuple or len(thing) != 2 or type(thing[0]) is not str:
        return False
    kind, shown = thing
    if kind == "less":
        return one_of(shown, range(stack[1] + 1)) and told_numbers(stack)[shown] < 0
    if kind == "apart":
        parts = [part for part in told_parts(stack) if len(part) <= stack[1] - 2]
        return one_of(shown, parts) and told_apart(stack, shown)
    if kind != "closed" or type(shown) is not tuple:
        return False
    lots = {repr(lot) for lot in told_lots(stack)}
    return all(repr(lot) in lots for lot in shown) and told_closed(stack, shown)
