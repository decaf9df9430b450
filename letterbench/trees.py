"""Trees that tell of two rows of the machine that they are alike, looked at without asking who drew them."""

from letterbench.bounded import Bounds, Walk, truth_by, twin_of, worths_at
from letterbench.forms import is_tuple_of
from letterbench.numbers import is_between

MOST_BYTES = 120


class Course:
    """Two rows run one behind the other on all bytes within bounds, as far as these go one way."""

    def __init__(self, walk, other, bounds):
        self.walk = walk
        self.other = other
        self.bounds = bounds
        self.truth = None


def course_of(one, other):
    """Two rows at their beginnings, on all bytes of at most so many."""
    return Course(Walk(one), other, Bounds(0, MOST_BYTES, {}))


def truths_on(course):
    """What both rows tell; None where one of them stops at a row that may go two ways."""
    truth = truth_by(course.walk, course.bounds)
    if truth is not None and course.truth is None:
        course.truth = truth
        course.walk = Walk(course.other)
        truth = truth_by(course.walk, course.bounds)
    if truth is None:
        return None
    return course.truth, truth


def course_within(course, bounds):
    """A course that goes on by itself on the bytes within these bounds."""
    within = Course(twin_of(course.walk), course.other, bounds)
    within.truth = course.truth
    return within


def bounds_by_length(bounds, many):
    """The bounds of bytes fewer than many and of all others; None where none is left of one of these."""
    if not is_between(many, bounds.least + 1, bounds.most):
        return None
    return Bounds(bounds.least, many - 1, bounds.worths), Bounds(many, bounds.most, bounds.worths)


def bounds_by_byte(bounds, place, worth):
    """The bounds of bytes with less than a worth at a place and of all others; None where none is left of one."""
    # No byte is asked that isn't there for sure.
    if not is_between(place, 0, bounds.least - 1):
        return None
    low, high = worths_at(bounds, place)
    if not is_between(worth, low + 1, high):
        return None
    less = dict(bounds.worths)
    less[place] = (low, worth - 1)
    more = dict(bounds.worths)
    more[place] = (worth, high)
    return Bounds(bounds.least, bounds.most, less), Bounds(bounds.least, bounds.most, more)


def sides_of(bounds, head):
    """The bounds on both sides of a knot that begins so; None where it isn't one that may part these."""
    if len(head) == 2 and head[0] == "length":
        return bounds_by_length(bounds, head[1])
    if len(head) == 3 and head[0] == "byte":
        return bounds_by_byte(bounds, head[1], head[2])
    return None


def is_told(knot):
    """Whether this has the form of a tree that tells a truth at once."""
    return is_tuple_of(knot, 2, 2) and knot[0] == "told" and isinstance(knot[1], bool)


def lets_tree(one, other, thing):
    """Whether this is a tree by whose bounds alone both rows go one way each, to its truths."""
    # A tree may be deeper than calls may be, so what is left to look at is kept in a list.
    waiting = [(course_of(one, other), thing)]
    while waiting:
        course, knot = waiting.pop()
        truths = truths_on(course)
        if is_told(knot):
            if truths != (knot[1], knot[1]):
                return False
        else:
            sides = sides_of(course.bounds, knot[:-2]) if is_tuple_of(knot, 4, 5) else None
            if sides is None:
                return False
            waiting.append((course_within(course, sides[1]), knot[-1]))
            waiting.append((course_within(course, sides[0]), knot[-2]))
    return True
