"""Calm sizes: those within a bound that keep as many rows as can be, and the numbers that show that none keep more."""

from calmcuts.boxes import DOWN, check_split, check_weights
from calmcuts.errors import BadSizes, BadWeight
from calmcuts.parts import is_number, less, part
from calmcuts.rows import check_bound, row_ends, row_shapes


def calm(box, weights, bound, kept, *, side=DOWN):
    """The sizes within the bound that cost the least, of several the first in the order of tuples, and their cost."""
    _check_calm(box, weights, bound, kept, side)
    many = len(weights)
    costs = _row_costs(box, weights, bound, kept, side)
    behind = _costs_behind(costs, many)
    if behind[0] is None:
        return None
    sizes = []
    begin = 0
    while begin < many:
        # The shortest row behind which the rest costs no more than it may comes first.
        end = begin + 1
        while not _is_as_cheap(costs, behind, begin, end):
            end += 1
        sizes.append(end - begin)
        begin = end
    return (tuple(sizes), behind[0])


def numbers(box, weights, bound, kept, *, side=DOWN):
    """For each beginning from 0 to all things the least cost of rows within the bound that lead to it, or None."""
    _check_calm(box, weights, bound, kept, side)
    costs = _row_costs(box, weights, bound, kept, side)
    found = [0]
    for end in range(1, len(weights) + 1):
        leading = [begin for begin in range(end) if found[begin] is not None and (begin, end) in costs]
        found.append(min([found[begin] + costs[begin, end] for begin in leading], default=None))
    return found


def shown(box, weights, bound, kept, told, *, side=DOWN):
    """Whether a list of numbers and Nones shows that no sizes within the bound cost less than its last number."""
    _check_calm(box, weights, bound, kept, side)
    if not isinstance(told, list) or len(told) != len(weights) + 1:
        return False
    if not all([number is None or is_number(number) for number in told]) or told[0] != 0:
        return False
    costs = _row_costs(box, weights, bound, kept, side)
    return all([_is_led_to(told[begin], costs[begin, end], told[end]) for begin, end in list(costs)])


def sway(weights, others):
    """How much weights that turn into others sway: all differences by the greater one of the two sums."""
    check_weights(weights)
    check_weights(others)
    if len(weights) != len(others):
        raise BadWeight()
    differences = [abs(one - other) for one, other in zip(weights, others)]
    return part(sum(differences), max(sum(weights), sum(others)))


def cost_of(sizes, kept):
    """How many rows of sizes are none of the kept ones."""
    return sum([_row_cost(begin, end, kept) for begin, end in row_ends(sizes)])


def _check_calm(box, weights, bound, kept, side):
    check_split(box, weights, side)
    check_bound(bound)
    if not isinstance(kept, list) or not all([_is_row(pair, len(weights)) for pair in kept]):
        raise BadSizes()
    if len({pair: True for pair in kept}) < len(kept):
        raise BadSizes()


def _is_row(thing, many):
    """Whether a thing is a pair of a row's first place and its size, of so many things."""
    if not isinstance(thing, tuple) or len(thing) != 2 or not all([is_number(number) for number in thing]):
        return False
    first, size = thing
    return first >= 0 and size >= 1 and first + size <= many


def _row_cost(begin, end, kept):
    return 0 if (begin, end - begin) in kept else 1


def _row_costs(box, weights, bound, kept, side):
    """A dict with what each row within the bound costs, by the places where it begins and ends."""
    found = {}
    for (begin, end), shape in row_shapes(box, weights, side).items():
        if not less(bound, shape):
            found[begin, end] = _row_cost(begin, end, kept)
    return found


def _costs_behind(costs, many):
    """For each beginning from 0 to all things the least cost of the rows from it on, or None where none lead on."""
    found = [None] * many + [0]
    for begin in reversed(range(many)):
        leading = [end for end in range(begin + 1, many + 1) if found[end] is not None and (begin, end) in costs]
        found[begin] = min([costs[begin, end] + found[end] for end in leading], default=None)
    return found


def _is_as_cheap(costs, behind, begin, end):
    """Whether a row can be one of those that cost the least from where it begins on."""
    if behind[end] is None or (begin, end) not in costs:
        return False
    return costs[begin, end] + behind[end] == behind[begin]


def _is_led_to(ahead, cost, number):
    """Whether the number that a row leads to is as little as the one ahead of it and the row's cost ask for."""
    return ahead is None or (number is not None and number <= ahead + cost)
