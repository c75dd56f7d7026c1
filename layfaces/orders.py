"""In which orders the faces of a stack can be laid, reckoned lot by lot."""

from layfaces.basics import has_all, less, need_at_most
from layfaces.errors import NoLot
from layfaces.laying import need_lot
from layfaces.stacks import need_stack

# A lot is reckoned here as one number, with the bit of each of its faces: so there are as
# many lots as numbers below 1 << (how many faces), and a lot is below each that has it.
MOST_ORDERED = 9


def need_few(stack):
    """Refuse a stack of too many faces to reckon all its lots."""
    need_at_most(len(stack[2]), MOST_ORDERED)


def need_orderly(stack):
    """Refuse what is no stack, or one of too many faces."""
    need_stack(stack)
    need_few(stack)


def bits_of(lot):
    """The lot as one number."""
    return sum([1 << number for number in lot])


def lot_of(bits, many):
    """The lot that one number stands for, of so many faces."""
    return tuple([number for number in range(many) if bits >> number & 1])


def bits_where(faces, points):
    """The lot, as one number, of the faces that have all the points."""
    return bits_of([number for number, face in enumerate(faces) if has_all(face, points)])


def meetings(stack):
    """Of each face, for each of its points: the lots of those that have all the others, and that have it."""
    faces = stack[2]
    return [
        [(bits_where(faces, less(face, (point,))), bits_where(faces, (point,))) for point in face]
        for face in faces
    ]


def lies_on_bits(meets, bits):
    """Whether a face, of which all meetings are handed in, may be laid on a lot."""
    # As in laying: it may where no face of the lot has all the points that it brings. By this
    # a face of the lot may not either: whatever its points are, it has them itself.
    left = bits
    for others, having in meets:
        if bits & others:
            left = left & having
    return left == 0


def layable(met, bits):
    """The rising list of the numbers of the faces that may be laid on the lot."""
    return [number for number, meets in enumerate(met) if lies_on_bits(meets, bits)]


def onward(met):
    """Of each lot the number of rows in which all faces that it lacks may be laid on it."""
    size = 1 << len(met)
    rows = [0] * size
    rows[size - 1] = 1
    # From behind: each lot that comes of a lot is a greater number, so it is reckoned already.
    for bits in reversed(range(size - 1)):
        rows[bits] = sum([rows[bits | 1 << number] for number in layable(met, bits)])
    return rows


def laid_bits(met):
    """The list of all laid lots, as numbers."""
    size = 1 << len(met)
    laid = [False] * size
    laid[0] = True
    for bits in range(size):
        if laid[bits]:
            for number in layable(met, bits):
                laid[bits | 1 << number] = True
    return [bits for bits in range(size) if laid[bits]]


def first_order(stack):
    """The first order, as tuples compare, None where there is none."""
    need_orderly(stack)
    met = meetings(stack)
    rows = onward(met)
    if rows[0] == 0:
        return None
    order = []
    bits = 0
    while len(order) < len(met):
        number = min([each for each in layable(met, bits) if rows[bits | 1 << each]])
        order.append(number)
        bits = bits | 1 << number
    return tuple(order)


def many_orders(stack):
    """How many orders there are."""
    need_orderly(stack)
    return onward(meetings(stack))[0]


def laid_lots(stack):
    """The rising list of all laid lots."""
    need_orderly(stack)
    met = meetings(stack)
    return sorted([lot_of(bits, len(met)) for bits in laid_bits(met)])


def most_laid(stack):
    """The greatest number of faces that a laid lot has."""
    return max([len(lot) for lot in laid_lots(stack)])


def stuck_lots(stack):
    """The rising list of the laid lots, but that of all faces, on which no face may be laid."""
    need_orderly(stack)
    met = meetings(stack)
    whole = (1 << len(met)) - 1
    stuck = [bits for bits in laid_bits(met) if bits != whole and not layable(met, bits)]
    return sorted([lot_of(bits, len(met)) for bits in stuck])


def leads_on(stack, lot):
    """Whether some order begins with the faces of the laid lot, in whichever row."""
    need_stack(stack)
    need_lot(stack, lot)
    need_few(stack)
    met = meetings(stack)
    bits = bits_of(lot)
    if bits not in laid_bits(met):
        raise NoLot("the lot is not laid")
    return onward(met)[bits] > 0
