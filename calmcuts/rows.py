"""Rows: things laid in a box in told order, so many to a row, each as great as its weight's share of all."""

from calmcuts.boxes import ACROSS, DOWN, check_split, shares
from calmcuts.errors import BadBound, BadSizes
from calmcuts.parts import ONE, greater, greatest_of, is_number, is_part, less, over, part, times


def laid(box, weights, sizes, *, side=DOWN):
    """The things' boxes where they are laid in rows of these sizes."""
    check_split(box, weights, side)
    check_sizes(sizes, len(weights))
    rows = [weights[begin:end] for begin, end in row_ends(sizes)]
    slabs = shares(box, [sum(row) for row in rows], side)
    other_side = ACROSS if side == DOWN else DOWN
    found = []
    for slab, row in zip(slabs, rows):
        found.extend(shares(slab, row, other_side))
    return found


def row_shape(box, weights, first, size, *, side=DOWN):
    """The greatest shape of the things of a row, wherever the other rows begin."""
    check_split(box, weights, side)
    if not is_number(first) or not is_number(size):
        raise BadSizes()
    if first < 0 or size < 1 or first + size > len(weights):
        raise BadSizes()
    return _shape_between(box, weights, first, first + size, side)


def worst(box, weights, sizes, *, side=DOWN):
    """The greatest shape of the rows of these sizes."""
    check_split(box, weights, side)
    check_sizes(sizes, len(weights))
    return greatest_of([_shape_between(box, weights, begin, end, side) for begin, end in row_ends(sizes)])


def row_ends(sizes):
    """Of each row the place of its first thing and the place behind its last."""
    found = []
    begin = 0
    for size in sizes:
        found.append((begin, begin + size))
        begin += size
    return found


def row_shapes(box, weights, side):
    """A dict with the shape of each row that there can be, by the places where it begins and ends as in `row_ends`."""
    many = len(weights)
    found = {}
    for begin in range(many):
        for end in range(begin + 1, many + 1):
            found[begin, end] = _shape_between(box, weights, begin, end, side)
    return found


def check_sizes(thing, many):
    """Refuse what is no sizes of so many things."""
    if not isinstance(thing, tuple) or not all([is_number(size) and size >= 1 for size in thing]):
        raise BadSizes()
    if sum(thing) != many:
        raise BadSizes()


def check_bound(thing):
    """Refuse what is no part from 1 on."""
    if not is_part(thing) or less(thing, ONE):
        raise BadBound()


def _shape_between(box, weights, begin, end, side):
    row = weights[begin:end]
    along = over(box[2], box[3]) if side == DOWN else over(box[3], box[2])
    by_weight = times(along, part(sum(weights), sum(row) ** 2))
    # All things of a row are equally long across it, so along it only the heaviest and the lightest can be the worst.
    longest = times(by_weight, (max(row), 1))
    shortest = times(by_weight, (min(row), 1))
    return greater(longest, over(ONE, shortest))
