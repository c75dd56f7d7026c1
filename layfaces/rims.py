"""The rim and the thick parts of a stack, and orders that are turned back."""

from layfaces.basics import has_all
from layfaces.errors import NoRim
from layfaces.laying import is_order, need_order
from layfaces.stacks import need_points, need_stack, parts_of


def many_with(faces, part):
    """How many of the faces have all the part's points."""
    return len([face for face in faces if has_all(face, part)])


def rim(stack):
    """The rising list of the parts of k - 1 points that are in just one face."""
    need_stack(stack)
    need_points(stack)
    return [part for part in parts_of(stack, stack[1] - 1) if many_with(stack[2], part) == 1]


def thick(stack):
    """The rising list of the parts of k - 1 points that are in three faces or more."""
    need_stack(stack)
    need_points(stack)
    return [part for part in parts_of(stack, stack[1] - 1) if many_with(stack[2], part) > 2]


def is_shut(stack):
    """Whether faces have points, and each part of k - 1 points is in just two faces."""
    need_stack(stack)
    if stack[1] == 0:
        return False
    return all(many_with(stack[2], part) == 2 for part in parts_of(stack, stack[1] - 1))


def turned_back(stack, order):
    """The row of the order from behind."""
    need_stack(stack)
    need_order(stack, order)
    return order[::-1]


def stays_order(stack, order):
    """Whether the order is one from behind, too."""
    return is_order(stack, turned_back(stack, order))


def rim_stack(stack):
    """The stack of as many points whose faces are the rim."""
    faces = rim(stack)
    if not faces:
        raise NoRim("the rim has no part")
    return (stack[0], stack[1] - 1, tuple(faces))
