"""The refusals: each class stands straight under LayError."""


class LayError(ValueError):
    """Any refusal."""


class NoStack(LayError):
    """What was handed in for a stack is none."""


class NoNumber(LayError):
    """What was handed in for a number is none of those that may stand there."""


class NoPart(LayError):
    """What was handed in for a part of a stack is none."""


class NoLot(LayError):
    """What was handed in for a lot of a stack is none."""


class NoRow(LayError):
    """What was handed in for a row is none."""


class NoOrder(LayError):
    """What was handed in for an order of a stack is none."""


class NoNames(LayError):
    """What was handed in for names of all points is none."""


class NoRim(LayError):
    """The rim of the stack has no part."""


class NoTaking(LayError):
    """What was handed in for a taking of a stack is none."""


class NoText(LayError):
    """What was handed in for a text writes nothing that is looked for."""


class NoLine(LayError):
    """What was said to a desk is no line."""


class NoDeed(LayError):
    """The deed that a desk was told cannot be done now."""


class TooGreat(LayError):
    """There are so many of something, and at most so many may be."""

    def __init__(self, many, most):
        super().__init__(f"{many}, where at most {most} may be")
        self.many = many
        self.most = most
