"""Lots of faces in which each part of k - 1 points is an even number of times."""

from layfaces.basics import has_all
from layfaces.errors import NoNumber
from layfaces.laying import brings, need_lot
from layfaces.orders import bits_of, lot_of
from layfaces.stacks import need_face, need_points, need_stack, parts_of

# The parts of k - 1 points that are in an odd number of faces of a lot are reckoned here as one
# number, with a bit for each, and so is the lot: two lots put together, without the faces that
# both have, have what `^` makes of their numbers. A round is a lot of which that number is 0.


def odd_parts(stack):
    """Of each face the parts of k - 1 points that are in it, as one number."""
    parts = parts_of(stack, stack[1] - 1)
    return [bits_of([at for at, part in enumerate(parts) if has_all(face, part)]) for face in stack[2]]


def is_round(stack, lot):
    """Whether the lot is a round of the stack."""
    need_stack(stack)
    need_points(stack)
    need_lot(stack, lot)
    odd = odd_parts(stack)
    left = 0
    for number in lot:
        left = left ^ odd[number]
    return left == 0


def cleared(kept, left, lot):
    """The parts left and the lot, once kept lots are put to it as long as one has the same greatest bit."""
    while left.bit_length() in kept:
        more, others = kept[left.bit_length()]
        left = left ^ more
        lot = lot ^ others
    return (left, lot)


def kept_of(odd, numbers):
    """Lots of the numbered faces, each with its odd parts, by the greatest bit of these."""
    # No two have the same greatest bit, so no round is made of these alone; with the rounds
    # they make each lot of the faces.
    kept = {}
    for number in numbers:
        left, lot = cleared(kept, odd[number], 1 << number)
        if left:
            kept[left.bit_length()] = (left, lot)
    return kept


def many_rounds(stack):
    """How many rounds the stack has."""
    need_stack(stack)
    need_points(stack)
    odd = odd_parts(stack)
    kept = kept_of(odd, list(range(len(odd))))
    # Each face that leaves nothing to keep makes a round with faces ahead of it; put together
    # in each way, these rounds are all that there are.
    return 1 << (len(odd) - len(kept))


def round_by(stack, order, number):
    """The round of the face, that brings all its points by the order, and of others that don't bring all theirs."""
    need_stack(stack)
    brought = brings(stack, order)
    need_points(stack)
    need_face(stack, number)
    others = [each for each, points in zip(order, brought) if len(points) < stack[1]]
    if number in others:
        raise NoNumber("the face does not bring all its points")
    odd = odd_parts(stack)
    # As there is such a round, nothing is left of the face's parts.
    left, lot = cleared(kept_of(odd, others), odd[number], 1 << number)
    return lot_of(lot, len(order))
