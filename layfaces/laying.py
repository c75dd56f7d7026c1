"""Which faces may be laid, what they bring, and in which orders they can be laid."""

from layfaces.basics import in_some, is_each_once, is_rising, less, parts_in
from layfaces.errors import NoLot, NoNumber, NoOrder, NoRow
from layfaces.stacks import need_face, need_stack


def need_lot(stack, lot):
    """Refuse what is no lot of the stack."""
    if not is_rising(lot, len(stack[2])):
        raise NoLot("no lot of the stack")


def need_face_beside(stack, lot, number):
    """Refuse what is no number of a face that is not in the lot."""
    need_face(stack, number)
    if number in lot:
        raise NoNumber("the face is in the lot")


def faces_at(stack, lot):
    """The list of the faces with the numbers of the lot."""
    return [stack[2][number] for number in lot]


def brought_on(laid, face):
    """The points that a face brings on the faces laid, of which it is none."""
    return tuple([point for point in face if in_some(less(face, (point,)), laid)])


def lies_on(laid, face):
    """Whether a face may be laid on the faces laid, of which it is none."""
    # A face laid has k - 1 points in common with this one where it lacks just one of its
    # points; these lacked points are what this one brings. What this one has in common
    # with another face laid is among the k - 1 just where the other lacks that point, too.
    # So it may be laid where each face laid lacks some point that it brings.
    return not in_some(brought_on(laid, face), laid)


def may_lay(stack, lot, number):
    """Whether the face may be laid on the lot."""
    need_stack(stack)
    need_lot(stack, lot)
    need_face(stack, number)
    return number not in lot and lies_on(faces_at(stack, lot), stack[2][number])


def brought(stack, lot, number):
    """The rising tuple of the points that the face brings on the lot."""
    need_stack(stack)
    need_lot(stack, lot)
    need_face_beside(stack, lot, number)
    return brought_on(faces_at(stack, lot), stack[2][number])


def new_parts(stack, lot, number):
    """The rising list of the parts that are in the face, and in no face of the lot."""
    need_stack(stack)
    need_lot(stack, lot)
    need_face_beside(stack, lot, number)
    laid = faces_at(stack, lot)
    return [part for part in parts_in(stack[2][number]) if not in_some(part, laid)]


def is_row(stack, thing):
    """Whether anything is a tuple of all numbers of the stack's faces, each once."""
    return is_each_once(thing, len(stack[2]))


def wrong_place(stack, row):
    """The first place of a row at which the face may not be laid, or None."""
    laid = []
    for place, face in enumerate(faces_at(stack, row)):
        if not lies_on(laid, face):
            return place
        laid.append(face)
    return None


def is_order(stack, thing):
    """Whether anything is an order of the stack."""
    need_stack(stack)
    return is_row(stack, thing) and wrong_place(stack, thing) is None


def need_order(stack, order):
    """Refuse what is no order of the stack."""
    if not is_order(stack, order):
        raise NoOrder("no order of the stack")


def first_wrong(stack, row):
    """The first place of a row at which the face may not be laid on those ahead, or None."""
    need_stack(stack)
    if not is_row(stack, row):
        raise NoRow("no row of the stack")
    return wrong_place(stack, row)


def brings(stack, order):
    """The list of what each face brings on those ahead, in the order's order."""
    need_stack(stack)
    need_order(stack, order)
    faces = faces_at(stack, order)
    return [brought_on(faces[:place], face) for place, face in enumerate(faces)]
