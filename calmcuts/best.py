"""Best and greedy sizes, and what shows that none have a worst shape below a bound."""

from calmcuts.boxes import DOWN, check_split
from calmcuts.parts import ONE, greater, is_number, least_of, less
from calmcuts.rows import check_bound, row_shapes


def best(box, weights, *, side=DOWN):
    """The sizes whose worst shape is the least; of several the first in the order of tuples."""
    check_split(box, weights, side)
    shapes = row_shapes(box, weights, side)
    least_behind = _least_behind(shapes, len(weights))
    sizes = []
    begin = 0
    while begin < len(weights):
        size = 1
        # The shortest row behind which the rest can still be laid as well as the whole comes first.
        while less(least_behind[0], greater(shapes[begin, begin + size], least_behind[begin + size])):
            size += 1
        sizes.append(size)
        begin += size
    return tuple(sizes)


def least(box, weights, *, side=DOWN):
    """The least worst shape that any sizes have."""
    check_split(box, weights, side)
    return _least_behind(row_shapes(box, weights, side), len(weights))[0]


def greedy(box, weights, *, side=DOWN):
    """The sizes got where each row takes the next thing as long as that makes its shape no greater."""
    check_split(box, weights, side)
    shapes = row_shapes(box, weights, side)
    sizes = []
    begin = 0
    while begin < len(weights):
        end = begin + 1
        while end < len(weights) and not less(shapes[begin, end], shapes[begin, end + 1]):
            end += 1
        sizes.append(end - begin)
        begin = end
    return tuple(sizes)


def beginnings(box, weights, bound, *, side=DOWN):
    """The rising list of the numbers of things that rows with shapes below the bound lead to."""
    check_split(box, weights, side)
    check_bound(bound)
    shapes = row_shapes(box, weights, side)
    found = [0]
    for end in range(1, len(weights) + 1):
        if any([less(shapes[begin, end], bound) for begin in found]):
            found.append(end)
    return found


def shuts(box, weights, bound, some, *, side=DOWN):
    """Whether a list of numbers shows that no sizes have a worst shape below the bound."""
    check_split(box, weights, side)
    check_bound(bound)
    if not isinstance(some, list) or not all([is_number(number) for number in some]):
        return False
    many = len(weights)
    has = [place in some for place in range(many + 1)]
    if not has[0] or has[many]:
        return False
    shapes = row_shapes(box, weights, side)
    leading_out = [shapes[begin, end] for begin, end in list(shapes) if has[begin] and not has[end]]
    return not any([less(one, bound) for one in leading_out])


def _least_behind(shapes, many):
    """For each number of things from 0 to all the least worst shape in which the things behind them can be laid."""
    # Where no things are left nothing is laid, and 1, below which no shape is, changes no worst shape.
    found = [ONE] * (many + 1)
    for begin in reversed(range(many)):
        found[begin] = least_of([greater(shapes[begin, end], found[end]) for end in range(begin + 1, many + 1)])
    return found
