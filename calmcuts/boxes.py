"""Boxes: tuples (left, top, wide, high) of parts, from left to right and from the top down."""

from calmcuts.errors import BadBox, BadSide, BadWeight
from calmcuts.parts import NOUGHT, greater, is_number, is_part, less, lesser, minus, over, part, plus, times

DOWN = "down"
ACROSS = "across"
MOST_CHILDREN = 12
MOST_WEIGHT = 400000
MOST_LENGTH = 1000


def is_box(thing):
    """Whether a thing is a box."""
    if not isinstance(thing, tuple) or len(thing) != 4:
        return False
    if not all([is_part(number) for number in thing]):
        return False
    return less(NOUGHT, thing[2]) and less(NOUGHT, thing[3])


def box_of(wide, high, *, left=0, top=0):
    """The box with these whole numbers."""
    if not all([is_number(number) for number in (left, top, wide, high)]):
        raise BadBox()
    if wide <= 0 or high <= 0:
        raise BadBox()
    return (part(left, 1), part(top, 1), part(wide, 1), part(high, 1))


def area(box):
    """How great a box is."""
    check_box(box)
    return times(box[2], box[3])


def shape(box):
    """How far a box is from a square, which has 1."""
    check_box(box)
    return greater(over(box[2], box[3]), over(box[3], box[2]))


def holds(box, x, y):
    """Whether the point lies in a box; its right and bottom ends don't."""
    check_box(box)
    left, top, wide, high = box
    return _lies_in(left, wide, x) and _lies_in(top, high, y)


def touching(one, other):
    """How long an edge two boxes have in common."""
    check_box(one)
    check_box(other)
    beside = _common(one[0], one[2], other[0], other[2])
    beneath = _common(one[1], one[3], other[1], other[3])
    # Nought in common along a side means that the one ends there just where the other begins.
    if beside == NOUGHT and less(NOUGHT, beneath):
        return beneath
    if beneath == NOUGHT and less(NOUGHT, beside):
        return beside
    return NOUGHT


def split(box, weights, *, side=DOWN):
    """The boxes, by the weights' shares, into which a box is cut along a side."""
    check_split(box, weights, side)
    return shares(box, weights, side)


def shares(box, weights, side):
    """As `split`, of weights that may come to more than one weight may be, as those of rows do."""
    total = sum(weights)
    ahead = 0
    found = []
    for weight in weights:
        found.append(_slab(box, part(ahead, total), part(weight, total), side))
        ahead += weight
    return found


def check_box(thing):
    """Refuse what is no box."""
    if not is_box(thing):
        raise BadBox()


def check_lengths(wide, high):
    """Refuse what is no width and height, in whole numbers, of a house or of what is drawn."""
    if not all([is_number(length) and 1 <= length <= MOST_LENGTH for length in (wide, high)]):
        raise BadBox()


def check_weights(thing):
    """Refuse what is no list or tuple of as many weights as a box may be split by."""
    if not isinstance(thing, (list, tuple)) or not 1 <= len(thing) <= MOST_CHILDREN:
        raise BadWeight()
    if not all([is_number(weight) and 1 <= weight <= MOST_WEIGHT for weight in thing]):
        raise BadWeight()


def is_side(thing):
    """Whether a thing is a side."""
    return isinstance(thing, str) and thing in (DOWN, ACROSS)


def check_side(thing):
    """Refuse what is no side."""
    if not is_side(thing):
        raise BadSide()


def check_split(box, weights, side):
    """Refuse what is no box, no weights or no side, in this order."""
    check_box(box)
    check_weights(weights)
    check_side(side)


def _lies_in(begin, length, point):
    return not less(point, begin) and less(point, plus(begin, length))


def _common(begin, length, other_begin, other_length):
    """How much two stretches have in common; below nought where they are apart."""
    end = lesser(plus(begin, length), plus(other_begin, other_length))
    return minus(end, greater(begin, other_begin))


def _slab(box, ahead, share, side):
    """The share of a box that begins, along the side, behind the share ahead of it."""
    left, top, wide, high = box
    if side == DOWN:
        return (left, plus(top, times(high, ahead)), wide, times(high, share))
    return (plus(left, times(wide, ahead)), top, times(wide, share), high)
