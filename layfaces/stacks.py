"""Stacks, their parts and sides, and the stacks that come of a part or a point."""

from layfaces.basics import has_all, in_some, is_rising, is_within, less, need_within, parts_in, rises
from layfaces.errors import NoNumber, NoPart, NoStack

MOST_POINTS = 8
MOST_IN_FACE = 4
MOST_FACES = 70


def is_stack(thing):
    """Whether anything is a stack (n, k, faces)."""
    if not isinstance(thing, tuple) or len(thing) != 3:
        return False
    n, k, faces = thing
    if not is_within(n, 1, MOST_POINTS) or not is_within(k, 0, min(n, MOST_IN_FACE)):
        return False
    return are_faces(n, k, faces)


def are_faces(n, k, thing):
    """Whether anything is a rising tuple of one to seventy faces of k of n points."""
    if not isinstance(thing, tuple) or not 1 <= len(thing) <= MOST_FACES:
        return False
    # What rises is asked last: only then is it sure that all compare.
    return all(is_rising(face, n) and len(face) == k for face in thing) and rises(thing)


def need_stack(stack):
    """Refuse what is no stack."""
    if not is_stack(stack):
        raise NoStack("no stack")


def need_face(stack, number):
    """Refuse what is no number of a face of the stack."""
    need_within(number, 0, len(stack[2]) - 1)


def need_points(stack):
    """Refuse a stack whose faces have no points."""
    need_within(stack[1], 1, MOST_IN_FACE)


def is_part(stack, thing):
    """Whether anything is a part of the stack."""
    need_stack(stack)
    return is_rising(thing, stack[0]) and in_some(thing, stack[2])


def need_part(stack, part):
    """Refuse what is no part of the stack."""
    if not is_part(stack, part):
        raise NoPart("no part of the stack")


def parts_of(stack, many):
    """The rising list of all parts of so many points."""
    need_stack(stack)
    need_within(many, 0, stack[1])
    return sorted({part for face in stack[2] for part in parts_in(face) if len(part) == many})


def counts(stack):
    """The tuple of how many parts of 0, of 1 and so on up to k points there are."""
    need_stack(stack)
    return tuple([len(parts_of(stack, many)) for many in range(stack[1] + 1)])


def sides(stack, number):
    """The rising list of the parts of k - 1 points that are in the face."""
    need_stack(stack)
    need_face(stack, number)
    return [part for part in parts_in(stack[2][number]) if len(part) == stack[1] - 1]


def link(stack, part):
    """The stack of the faces that have all the part's points, without these."""
    need_stack(stack)
    need_part(stack, part)
    n, k, faces = stack
    rest = sorted([less(face, part) for face in faces if has_all(face, part)])
    return (n, k - len(part), tuple(rest))


def without(stack, point):
    """The stack of all faces that don't have the point."""
    need_stack(stack)
    n, k, faces = stack
    need_within(point, 0, n - 1)
    rest = tuple([face for face in faces if point not in face])
    if not rest:
        raise NoNumber("each face has the point")
    return (n, k, rest)
