"""Stacks of told kinds, and the orders that some kinds have at once."""

from layfaces.basics import is_each_once, less, need_within, parts_in
from layfaces.errors import NoNames
from layfaces.stacks import MOST_IN_FACE, MOST_POINTS, need_stack


def full_stack(n, k):
    """The stack of all faces of k of n points."""
    need_within(n, 1, MOST_POINTS)
    need_within(k, 0, min(n, MOST_IN_FACE))
    return (n, k, tuple([face for face in parts_in(tuple(range(n))) if len(face) == k]))


def pairs_stack(d):
    """The stack whose faces have just one point of each of d pairs."""
    need_within(d, 1, MOST_IN_FACE)
    faces = [()]
    for i in range(d):
        faces = [(*face, point) for face in faces for point in (2 * i, 2 * i + 1)]
    return (2 * d, d, tuple(faces))


def steps(n):
    """The list of the faces of a point and the next one, of n points."""
    return [(point, point + 1) for point in range(n - 1)]


def row_stack(n):
    """The stack of n points whose faces are the tuples of a point and the next one."""
    need_within(n, 2, MOST_POINTS)
    return (n, 2, tuple(steps(n)))


def ring_stack(n):
    """The stack of n points as in a row, with the first and the last point in one more face."""
    need_within(n, 3, MOST_POINTS)
    return (n, 2, tuple(sorted([*steps(n), (0, n - 1)])))


def put_for(face, point, other):
    """The face in which the other point stands in the point's stead."""
    return tuple(sorted([*less(face, (point,)), other]))


def may_trade(faces, first, second, point):
    """Whether some point that the second face alone has makes a face in the point's stead."""
    return any(put_for(first, point, other) in faces for other in less(second, first))


def first_untraded(stack):
    """The first (one, other, point) for which no point can be traded, None where the stack is traded."""
    need_stack(stack)
    faces = stack[2]
    for one, first in enumerate(faces):
        for other, second in enumerate(faces):
            for point in less(first, second):
                if not may_trade(faces, first, second, point):
                    return (one, other, point)
    return None


def first_unpushed(stack):
    """The first (number, point, lesser) that makes no face, None where the stack is pushed."""
    need_stack(stack)
    faces = stack[2]
    for number, face in enumerate(faces):
        for point in face:
            for lesser in less(tuple(range(point)), face):
                if put_for(face, point, lesser) not in faces:
                    return (number, point, lesser)
    return None


def plain_order(stack):
    """The numbers of all faces, rising, where the stack is traded or pushed, else None."""
    if first_untraded(stack) is not None and first_unpushed(stack) is not None:
        return None
    return tuple(range(len(stack[2])))


def need_names(stack, names):
    """Refuse what is no tuple of all points, each once."""
    if not is_each_once(names, stack[0]):
        raise NoNames("no tuple of all points, each once")


def told_by(face, names):
    """The face as a rising tuple of the names of its points."""
    return tuple(sorted([names[point] for point in face]))


def named_order(stack, names):
    """The order in which the faces of a traded stack come by the names, None where it is not traded."""
    need_stack(stack)
    need_names(stack, names)
    if first_untraded(stack) is not None:
        return None
    come = sorted([(told_by(face, names), number) for number, face in enumerate(stack[2])])
    return tuple([number for face, number in come])
