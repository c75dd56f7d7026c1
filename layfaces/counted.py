"""The numbers that are told by what each face brings, and the counts that come of them."""

from layfaces.basics import is_within
from layfaces.errors import NoRow
from layfaces.laying import brings
from layfaces.stacks import counts, link, need_points, need_stack, parts_of

MOST_NUMBERS = 5
MOST_TOLD = 1000000


def picks(many, few):
    """How many ways there are to pick so few of so many things."""
    ways = 1
    for at in range(few):
        ways = ways * (many - at) // (at + 1)
    return ways


def signed(number, many):
    """The number, taken below 0 where many is odd."""
    return -number if many & 1 else number


def told(stack):
    """The tuple of the told numbers at 0 to k."""
    need_stack(stack)
    k = stack[1]
    found = counts(stack)
    return tuple([
        sum([signed(found[j] * picks(k - j, k - i), i - j) for j in range(i + 1)])
        for i in range(k + 1)
    ])


def is_told_row(thing):
    """Whether anything is a tuple of one to five numbers, none too far from 0."""
    if not isinstance(thing, tuple) or not 1 <= len(thing) <= MOST_NUMBERS:
        return False
    return all(is_within(each, -MOST_TOLD, MOST_TOLD) for each in thing)


def counts_from(row):
    """The tuple of the counts, as if the row were told."""
    if not is_told_row(row):
        raise NoRow("no tuple of one to five numbers that may be told")
    k = len(row) - 1
    return tuple([
        sum([row[i] * picks(k - i, j - i) for i in range(j + 1)])
        for j in range(k + 1)
    ])


def by_brought(stack, order):
    """The tuple of how many faces of the order bring 0, 1 and so on up to k points."""
    many = [len(points) for points in brings(stack, order)]
    return tuple([many.count(i) for i in range(stack[1] + 1)])


def evened(stack):
    """The sum of the counts, each at an odd number of points taken below 0."""
    return sum([signed(many, points) for points, many in enumerate(counts(stack))])


def told_around(stack):
    """The tuple of the sums, over all points in faces, of the told numbers of their links."""
    need_stack(stack)
    need_points(stack)
    around = [told(link(stack, part)) for part in parts_of(stack, 1)]
    return tuple([sum([row[i] for row in around]) for i in range(stack[1])])
