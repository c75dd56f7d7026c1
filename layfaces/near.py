"""Which faces are neighbours, and how neighbours lead from face to face."""

from layfaces.basics import all_below, has_all, less
from layfaces.laying import faces_at, need_order
from layfaces.stacks import link, need_face, need_part, need_stack


def are_neighbours(face, other):
    """Whether two faces of one stack have all points but one in common."""
    return len(less(face, other)) == 1


def near_to(faces, number):
    """The rising list of the numbers of the neighbours of one of the faces."""
    return [each for each, face in enumerate(faces) if are_neighbours(face, faces[number])]


def near(stack, number):
    """The rising list of the numbers of the face's neighbours."""
    need_stack(stack)
    need_face(stack, number)
    return near_to(stack[2], number)


def steps_to(faces, number):
    """Of each face that neighbours lead from to this one: the next face on a way of fewest steps."""
    onward = {number: None}
    reached = [number]
    while reached:
        further = []
        for each in reached:
            for other in near_to(faces, each):
                if other not in onward:
                    onward[other] = each
                    further.append(other)
        reached = further
    return onward


def pieces(stack):
    """The rising list of the rising tuples of numbers of faces that neighbours lead to from each other."""
    need_stack(stack)
    found = []
    rest = list(range(len(stack[2])))
    while rest:
        piece = tuple(sorted(steps_to(stack[2], rest[0])))
        found.append(piece)
        rest = [number for number in rest if number not in piece]
    return found


def some_way(stack, one, other):
    """Some way of as few steps as can be from the one face to the other, None where there is none."""
    need_stack(stack)
    need_face(stack, one)
    need_face(stack, other)
    onward = steps_to(stack[2], other)
    if one not in onward:
        return None
    way = [one]
    while way[-1] != other:
        way.append(onward[way[-1]])
    return tuple(way)


def far(stack, one, other):
    """The least number of steps from the one face to the other, None where none lead there."""
    way = some_way(stack, one, other)
    return None if way is None else len(way) - 1


def is_way(stack, one, other, thing):
    """Whether anything is a way from the one face to the other."""
    need_stack(stack)
    need_face(stack, one)
    need_face(stack, other)
    if not all_below(thing, len(stack[2])) or thing[:1] != (one,) or thing[-1:] != (other,):
        return False
    faces = faces_at(stack, thing)
    return all(are_neighbours(faces[at], faces[at + 1]) for at in range(len(faces) - 1))


def first_near(stack, order, place):
    """The number of the first face in the order that is a neighbour of the one at the place."""
    faces = faces_at(stack, order)
    # There always is one ahead: a face that has no whole side in common with those cannot be laid.
    ahead = [number for number, face in zip(order, faces) if are_neighbours(face, faces[place])]
    return ahead[0]


def leaned(stack, order):
    """The list, from the second face on, of the number of the first face ahead that is its neighbour."""
    need_stack(stack)
    need_order(stack, order)
    return [first_near(stack, order, place) for place in range(1, len(order))]


def link_order(stack, order, part):
    """The row of the faces of the part's link, as they come in the order."""
    need_stack(stack)
    need_order(stack, order)
    need_part(stack, part)
    rests = link(stack, part)[2]
    return tuple([rests.index(less(face, part)) for face in faces_at(stack, order) if has_all(face, part)])
