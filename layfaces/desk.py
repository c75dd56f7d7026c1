"""A desk that keeps a stack and lays its faces, line by line."""

from layfaces.counted import told
from layfaces.errors import NoDeed, NoLine, NoText
from layfaces.laying import brought_on, faces_at, lies_on
from layfaces.orders import first_order
from layfaces.stacks import counts
from layfaces.texts import read, shown, written

FIRST_STACK = (3, 2, ((0, 1), (0, 2), (1, 2)))


def listed(words):
    """The words with one blank between each two, `none` where there are none."""
    return " ".join(words) if words else "none"


def listed_faces(faces):
    """The faces as they are written, side by side."""
    return listed([written(face) for face in faces])


def may_follow(laid, face):
    """Whether the face is not laid, and may be laid on the faces that are."""
    return face not in laid and lies_on(laid, face)


def tell_stack(stack, laid):
    """The stack as it is written."""
    return shown(stack)


def tell_laid(stack, laid):
    """The faces laid, as they came."""
    return listed_faces(laid)


def tell_may(stack, laid):
    """The faces that may be laid on these, rising."""
    return listed_faces([face for face in stack[2] if may_follow(laid, face)])


def tell_brings(stack, laid):
    """What each face laid brought, as it came."""
    return listed_faces([brought_on(laid[:place], face) for place, face in enumerate(laid)])


def tell_done(stack, laid):
    """Whether all faces are laid."""
    return "yes" if len(laid) == len(stack[2]) else "no"


def tell_counts(stack, laid):
    """The counts of the stack."""
    return listed([str(number) for number in counts(stack)])


def tell_told(stack, laid):
    """The told numbers of the stack."""
    return listed([str(number) for number in told(stack)])


def tell_first(stack, laid):
    """The faces of the stack's first order."""
    order = first_order(stack)
    return "none" if order is None else listed_faces(faces_at(stack, order))


def keep_stack(stack, laid, text):
    """The stack that the text writes, with no face laid."""
    return (read(text), ())


def lay_face(stack, laid, word):
    """The faces laid with one more behind them."""
    for face in stack[2]:
        if written(face) == word:
            if not may_follow(laid, face):
                raise NoDeed("the face may not be laid now")
            return (stack, (*laid, face))
    raise NoText("no face of the stack")


def lift_face(stack, laid, word):
    """The faces laid without the last one."""
    if not laid:
        raise NoDeed("no face is laid")
    return (stack, laid[:-1])


def clear_faces(stack, laid, word):
    """No face laid."""
    return (stack, ())


QUESTIONS = {
    "stack": tell_stack, "laid": tell_laid, "may": tell_may, "brings": tell_brings,
    "done": tell_done, "counts": tell_counts, "told": tell_told, "first": tell_first,
}
DEEDS = {"stack": keep_stack, "lay": lay_face, "lift": lift_face, "clear": clear_faces}


def is_line(thing):
    """Whether anything is a line that a desk can be told."""
    if not isinstance(thing, str):
        return False
    if thing in QUESTIONS or thing in ("lift", "clear", "back"):
        return True
    first, blank, rest = thing.partition(" ")
    # `stack` alone is a question: here there is a blank behind it, and whatever follows is no matter.
    return first == "stack" or (first == "lay" and rest != "" and " " not in rest)


class Desk:
    """A desk: the stack kept and the faces laid, as the deeds that stand have made them."""

    def __init__(self):
        # What stood at first, and behind it what each deed that stands has made of it.
        self.stood = [(FIRST_STACK, ())]

    def say(self, line):
        """Do the deed, or answer the question, of a line."""
        if not is_line(line):
            raise NoLine("no line that a desk knows")
        stack, laid = self.stood[-1]
        if line in QUESTIONS:
            answer = QUESTIONS[line]
            return answer(stack, laid)
        if line == "back":
            self.undo()
        else:
            first, blank, rest = line.partition(" ")
            deed = DEEDS[first]
            self.stood.append(deed(stack, laid, rest))
        return "ok"

    def undo(self):
        """Take back the last deed that stands."""
        if len(self.stood) == 1:
            raise NoDeed("no deed stands")
        self.stood.pop()
