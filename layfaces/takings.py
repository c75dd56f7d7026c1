"""How a stack is taken apart, point by point."""

from layfaces.basics import in_some, is_within, less, need_at_most, need_within
from layfaces.errors import NoTaking
from layfaces.stacks import need_stack

# What is left of a stack is reckoned here as the tuple of its faces alone: each point taken is
# in none of them any more, so there are no more steps down than points.
MOST_TAKEN = 12


def lacking(faces, point):
    """The faces that don't have the point."""
    return tuple([face for face in faces if point not in face])


def around(faces, point):
    """The faces that have the point, without it."""
    # As they all lose the same point, they rise as before.
    return tuple([less(face, (point,)) for face in faces if point in face])


def comes_off(faces, point):
    """Whether the point may be taken from the faces."""
    # Where each face has the point, none is left that could have what is left of the others.
    rest = lacking(faces, point)
    left = around(faces, point)
    return left != () and all(in_some(part, rest) for part in left)


def may_take(stack, point):
    """Whether the point may be taken from the stack."""
    need_stack(stack)
    need_within(point, 0, stack[0] - 1)
    return comes_off(stack[2], point)


def takable(stack):
    """The rising list of the points that may be taken."""
    need_stack(stack)
    return [point for point in range(stack[0]) if comes_off(stack[2], point)]


def takes_apart(n, faces, thing):
    """Whether anything is a taking of the faces, of n points."""
    if len(faces) == 1:
        return thing is None
    if not isinstance(thing, tuple) or len(thing) != 3:
        return False
    point, one, other = thing
    if not is_within(point, 0, n - 1) or not comes_off(faces, point):
        return False
    return takes_apart(n, lacking(faces, point), one) and takes_apart(n, around(faces, point), other)


def is_taking(stack, thing):
    """Whether anything is a taking of the stack."""
    need_stack(stack)
    return takes_apart(stack[0], stack[2], thing)


def need_taking(stack, taking):
    """Refuse what is no taking of the stack."""
    if not is_taking(stack, taking):
        raise NoTaking("no taking of the stack")


def takings_by(n, faces, point, known):
    """A list of one taking of the faces that begins with the point, [] where there is none."""
    if not comes_off(faces, point):
        return []
    ones = takings_known(n, lacking(faces, point), known)
    others = takings_known(n, around(faces, point), known)
    return [(point, one, other) for one in ones for other in others]


def takings_tried(n, faces, known):
    """A list of one taking of the faces, [] where there is none, tried point by point."""
    if len(faces) == 1:
        return [None]
    for point in range(n):
        found = takings_by(n, faces, point, known)
        if found:
            return found
    return []


def takings_known(n, faces, known):
    """A list of one taking of the faces, [] where there is none; known keeps what was tried."""
    if faces not in known:
        known[faces] = takings_tried(n, faces, known)
    return known[faces]


def some_taking(stack):
    """Some taking of the stack, None where there is none."""
    need_stack(stack)
    need_at_most(len(stack[2]), MOST_TAKEN)
    found = takings_known(stack[0], stack[2], {})
    return found[0] if found else None


def taking_size(stack, taking):
    """How many tuples the taking has."""
    need_stack(stack)
    need_taking(stack, taking)
    # Each tuple parts the faces in two, down to single ones.
    return len(stack[2]) - 1


def order_taken(faces, taking):
    """The list of the faces, each as it is in the stack, in the taking's order."""
    if taking is None:
        return list(faces)
    point, one, other = taking
    first = order_taken(lacking(faces, point), one)
    # A face that has the point is told by the link's taking with the point still in it.
    return first + order_taken(tuple([face for face in faces if point in face]), other)


def taken_order(stack, taking):
    """The order of the faces: those that don't have the point ahead of those that have it."""
    need_stack(stack)
    need_taking(stack, taking)
    return tuple([stack[2].index(face) for face in order_taken(stack[2], taking)])
