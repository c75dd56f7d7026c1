"""Stacks written as texts, and read."""

from layfaces.errors import NoText
from layfaces.stacks import is_stack, need_stack

FIGURES = "0123456789"
NO_POINTS = "-"


def written(points):
    """The points as single figures side by side."""
    if not points:
        return NO_POINTS
    return "".join([FIGURES[point] for point in points])


def shown(stack):
    """The text of a stack."""
    need_stack(stack)
    n, k, faces = stack
    return f"{n} {k}: " + " ".join([written(face) for face in faces])


def points_in(word):
    """The points that a word may write: of each sign its figure, -1 where it is none."""
    if word == NO_POINTS:
        return ()
    return tuple([FIGURES.find(sign) for sign in word])


def read(text):
    """The stack that a text writes."""
    if not isinstance(text, str):
        raise NoText("no text")
    words = text.split(" ")
    head = [FIGURES.find(word[:1]) for word in words[:2]]
    stack = (*head, tuple([points_in(word) for word in words[2:]]))
    # It is read freely here: what is not written just so does not come back as it was.
    if not is_stack(stack) or shown(stack) != text:
        raise NoText("the text writes no stack")
    return stack
