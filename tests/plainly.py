"""What points 7 to 11 say, reckoned plainly with fractions and by trying all there is, to hold the program against."""

from fractions import Fraction


def fractions_of(box):
    return tuple(Fraction(*number) for number in box)


def pair(number):
    return (number.numerator, number.denominator)


def pairs_of(box):
    return tuple(pair(number) for number in box)


def cut(box, weights, side):
    left, top, wide, high = box
    found = []
    for weight in weights:
        share = Fraction(weight, sum(weights))
        if side == "down":
            found.append((left, top, wide, high * share))
            top += high * share
        else:
            found.append((left, top, wide * share, high))
            left += wide * share
    return found


def shape_of(box):
    return max(box[2] / box[3], box[3] / box[2])


def other(side):
    return {"down": "across", "across": "down"}[side]


def rows_of(weights, sizes):
    found, rest = [], list(weights)
    for size in sizes:
        found.append(rest[:size])
        rest = rest[size:]
    return found


def all_laid(box, weights, sizes, side):
    rows = rows_of(weights, sizes)
    slabs = cut(box, [sum(row) for row in rows], side)
    return [thing for slab, row in zip(slabs, rows) for thing in cut(slab, row, other(side))]


def worst_of(box, weights, sizes, side):
    return max(shape_of(thing) for thing in all_laid(box, weights, sizes, side))


def all_sizes(many):
    """All tuples of numbers from 1 on that come to a number, in the order of tuples."""
    if many == 0:
        return [()]
    return [(size,) + rest for size in range(1, many + 1) for rest in all_sizes(many - size)]


def shape_of_row(box, weights, first, size, side):
    """The row's greatest shape where each other thing has a row of its own."""
    many = len(weights)
    sizes = (1,) * first + (size,) + (1,) * (many - first - size)
    return max(shape_of(thing) for thing in all_laid(box, weights, sizes, side)[first:first + size])


def all_trees(many):
    if many == 1:
        return [()]
    return [(side, first, second) for side in ("down", "across") for at in range(1, many)
            for first in all_trees(at) for second in all_trees(many - at)]


def things_in(tree):
    return 1 if tree == () else things_in(tree[1]) + things_in(tree[2])


def halves(box, weights, at, side):
    one, two = cut(box, [sum(weights[:at]), sum(weights[at:])], side)
    return [(one, weights[:at]), (two, weights[at:])]


def all_sliced(box, weights, tree):
    if tree == ():
        return [box]
    first, second = halves(box, weights, things_in(tree[1]), tree[0])
    return all_sliced(*first, tree[1]) + all_sliced(*second, tree[2])


def least_sliced(box, weights):
    return min(max(map(shape_of, all_sliced(box, weights, tree))) for tree in all_trees(len(weights)))


def is_paper(box, weights, bound, paper):
    if len(weights) == 1:
        return paper == () and shape_of(box) >= bound
    ways = [halves(box, weights, at, side) for side in ("down", "across") for at in range(1, len(weights))]
    return len(paper) == len(ways) and all(
        is_paper(*ways[place][half], bound, within) for place, (half, within) in enumerate(paper))
