"""What bars a stack from having an order."""

from layfaces.basics import is_rising, is_within, rises
from layfaces.counted import told
from layfaces.orders import bits_of, laid_lots, layable, meetings, need_orderly
from layfaces.stacks import is_part, link, need_stack, parts_of


def is_less(stack, thing):
    """Whether anything is a number from 0 to k at which the told number is below 0."""
    return is_within(thing, 0, stack[1]) and told(stack)[thing] < 0


def has_some(face, points):
    """Whether the face has some of the points."""
    return any(point in points for point in face)


def fall_apart(faces):
    """Whether the faces are of two lots such that none of the one meets one of the other."""
    points = list(faces[0])
    rest = list(faces)
    while rest:
        reached = [face for face in rest if has_some(face, points)]
        if not reached:
            return True
        points.extend([point for face in reached for point in face])
        rest = [face for face in rest if face not in reached]
    return False


def link_falls_apart(stack, part):
    """Whether the link of the part falls apart."""
    return fall_apart(link(stack, part)[2])


def is_apart(stack, thing):
    """Whether anything is a part of at most k - 2 points whose link falls apart."""
    if not is_part(stack, thing) or len(thing) > stack[1] - 2:
        return False
    return link_falls_apart(stack, thing)


def are_lots(stack, thing):
    """Whether anything is a rising tuple of lots of the stack."""
    # What rises is asked last: only then is it sure that all compare.
    many = len(stack[2])
    return isinstance(thing, tuple) and all(is_rising(lot, many) for lot in thing) and rises(thing)


def are_closed(stack, thing):
    """Whether anything is a rising tuple of lots from which no laying leads out, nor to all faces."""
    if not are_lots(stack, thing):
        return False
    met = meetings(stack)
    held = {bits_of(lot): True for lot in thing}
    whole = (1 << len(met)) - 1
    if 0 not in held or whole in held:
        return False
    return all(bits | 1 << number in held for bits in held for number in layable(met, bits))


def is_bar(stack, thing):
    """Whether anything is a bar of the stack."""
    need_stack(stack)
    if not isinstance(thing, tuple) or len(thing) != 2:
        return False
    kind, shown = thing
    if kind == "less":
        return is_less(stack, shown)
    if kind == "apart":
        return is_apart(stack, shown)
    return kind == "closed" and are_closed(stack, shown)


def first_apart(stack):
    """The first part of at most k - 2 points whose link falls apart, None where there is none."""
    for many in range(stack[1] - 1):
        for part in parts_of(stack, many):
            if link_falls_apart(stack, part):
                return part
    return None


def bar_for(stack):
    """A bar of the stack, None where there is an order."""
    need_orderly(stack)
    for i, number in enumerate(told(stack)):
        if number < 0:
            return ("less", i)
    part = first_apart(stack)
    if part is not None:
        return ("apart", part)
    lots = tuple(laid_lots(stack))
    if tuple(range(len(stack[2]))) in lots:
        return None
    return ("closed", lots)
