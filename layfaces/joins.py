"""Stacks named otherwise, stacks of one point more, and stacks put together."""

from layfaces.basics import in_some, need_at_most, parts_in
from layfaces.errors import NoStack
from layfaces.kinds import need_names, told_by
from layfaces.laying import need_order
from layfaces.stacks import MOST_IN_FACE, MOST_POINTS, need_stack


def named(stack, names):
    """The stack in which each point p is names[p]."""
    need_stack(stack)
    need_names(stack, names)
    n, k, faces = stack
    return (n, k, tuple(sorted([told_by(face, names) for face in faces])))


def named_back(stack, names):
    """The names by which each point comes back: p at names[p]."""
    need_stack(stack)
    need_names(stack, names)
    return tuple([names.index(name) for name in range(stack[0])])


def need_room(n, k):
    """Refuse so many points, then so many points of a face, where they are more than may be."""
    need_at_most(n, MOST_POINTS)
    need_at_most(k, MOST_IN_FACE)


def cone(stack):
    """The stack of one point more that is in each face, too."""
    need_stack(stack)
    n, k, faces = stack
    need_room(n + 1, k + 1)
    return (n + 1, k + 1, tuple([(*face, n) for face in faces]))


def need_two(one, other):
    """Refuse what is no stack, the first one ahead of the second one."""
    need_stack(one)
    need_stack(other)


def joined(one, other):
    """The stack whose faces are each one of the first and one of the second, behind it, together."""
    need_two(one, other)
    n = one[0] + other[0]
    k = one[1] + other[1]
    need_room(n, k)
    behind = [tuple([point + one[0] for point in face]) for face in other[2]]
    return (n, k, tuple([(*face, *more) for face in one[2] for more in behind]))


def joined_order(one, other, order, another):
    """The order of the joined stack: for each face of the first order all with it, in the second one's."""
    need_two(one, other)
    need_order(one, order)
    need_order(other, another)
    need_room(one[0] + other[0], one[1] + other[1])
    # All with the same face of the first stack stand side by side in the joined one.
    many = len(another)
    return tuple([number * many + more for number in order for more in another])


def need_alike(one, other):
    """Refuse what is no stack, and a second one of other points, or of other points of a face."""
    need_two(one, other)
    if one[:2] != other[:2]:
        raise NoStack("a stack of another n or k")


def put_on(one, other):
    """The stack of the faces that are in the one or in the other."""
    need_alike(one, other)
    return (one[0], one[1], tuple(sorted({face for stack in (one, other) for face in stack[2]})))


def shared_parts(one, other):
    """The rising list of the parts that both stacks have."""
    need_alike(one, other)
    return sorted({part for face in one[2] for part in parts_in(face) if in_some(part, other[2])})
