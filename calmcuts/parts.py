"""Parts: exact numbers, each a pair (above, below) in lowest terms with below from 1 on."""

from math import gcd

from calmcuts.errors import BadPart, BadText

NOUGHT = (0, 1)
ONE = (1, 1)
MOST_FIGURES = 200


def is_number(thing):
    """Whether a thing is a whole number; True and False are none."""
    return isinstance(thing, int) and not isinstance(thing, bool)


def is_part(thing):
    """Whether a thing is a part."""
    if not isinstance(thing, tuple) or len(thing) != 2:
        return False
    above, below = thing
    return is_number(above) and is_number(below) and below > 0 and gcd(above, below) == 1


def part(above, below):
    """The part that above by below is."""
    if below == 0:
        raise BadPart()
    common = gcd(above, below)
    if below < 0:
        common = -common
    return (above // common, below // common)


def plus(one, other):
    """The sum of two parts."""
    return part(one[0] * other[1] + other[0] * one[1], one[1] * other[1])


def minus(one, other):
    """What one part is more than the other."""
    return part(one[0] * other[1] - other[0] * one[1], one[1] * other[1])


def times(one, other):
    """The product of two parts."""
    return part(one[0] * other[0], one[1] * other[1])


def over(one, other):
    """One part by the other, which is not nought."""
    return part(one[0] * other[1], one[1] * other[0])


def less(one, other):
    """Whether one part is less than the other."""
    return one[0] * other[1] < other[0] * one[1]


def lesser(one, other):
    """The lesser one of two parts."""
    return one if less(one, other) else other


def greater(one, other):
    """The greater one of two parts."""
    return other if less(one, other) else one


def least_of(parts):
    """The least one of parts, of which there is one or more."""
    found = parts[0]
    for one in parts:
        found = lesser(found, one)
    return found


def greatest_of(parts):
    """The greatest one of parts, of which there is one or more."""
    found = parts[0]
    for one in parts:
        found = greater(found, one)
    return found


def part_text(one):
    """A part as `ABOVE/BELOW`, or `ABOVE` where below is 1."""
    above, below = one
    return f"{above}" if below == 1 else f"{above}/{below}"


def read_part(text):
    """The part whose text this is."""
    above, slash, below = text.removeprefix("-").partition("/")
    if slash == "":
        below = "1"
    if not _are_figures(above) or not _are_figures(below) or int(below) == 0:
        raise BadText(0)
    found = part(int(above), int(below))
    if text.startswith("-"):
        found = minus(NOUGHT, found)
    # A part has one text only, so any other way to write it is found by writing it.
    if part_text(found) != text:
        raise BadText(0)
    return found


def _are_figures(text):
    # Counted before they are read, for Python's int refuses texts of thousands of figures with an error of its own.
    return len(text) <= MOST_FIGURES and text.isascii() and text.isdigit()
