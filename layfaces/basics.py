"""What all modules ask of numbers, rising tuples and faces."""

from layfaces.errors import NoNumber, TooGreat


def is_within(thing, least, most):
    """Whether anything is a whole number from least to most."""
    # A truth is an int in Python, but no whole number of the document.
    if not isinstance(thing, int) or isinstance(thing, bool):
        return False
    return least <= thing <= most


def need_within(number, least, most):
    """Refuse what is no whole number from least to most."""
    if not is_within(number, least, most):
        raise NoNumber(f"no whole number from {least} to {most}")


def need_at_most(many, most):
    """Refuse so many of something, where there are more than may be."""
    if many > most:
        raise TooGreat(many, most)


def all_below(thing, many):
    """Whether anything is a tuple of whole numbers from 0 to many - 1."""
    return isinstance(thing, tuple) and all(is_within(each, 0, many - 1) for each in thing)


def rises(things):
    """Whether each is greater than the one ahead, of things that compare."""
    return all(things[at] < things[at + 1] for at in range(len(things) - 1))


def is_rising(thing, many):
    """Whether anything is a rising tuple of whole numbers from 0 to many - 1."""
    # What rises is asked last: only then is it sure that all compare.
    return all_below(thing, many) and rises(thing)


def is_each_once(thing, many):
    """Whether anything is a tuple of all whole numbers from 0 to many - 1, each once."""
    return all_below(thing, many) and sorted(thing) == list(range(many))


def has_all(face, points):
    """Whether the face has all the points."""
    return all(point in face for point in points)


def in_some(points, faces):
    """Whether some one of the faces has all the points."""
    return any(has_all(face, points) for face in faces)


def less(face, points):
    """The face without the points, rising as it is."""
    return tuple([point for point in face if point not in points])


def parts_in(face):
    """The rising list of all parts of one face, () and the face itself among them."""
    found = [()]
    for point in face:
        found = found + [(*part, point) for part in found]
    return sorted(found)
