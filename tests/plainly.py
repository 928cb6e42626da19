"""What points 6 to 15 and 20 say, reckoned plainly with fractions and by trying all there is, to hold the program against."""

from fractions import Fraction


def fractions_of(box):
    return tuple(Fraction(*number) for number in box)


def pair(number):
    return (number.numerator, number.denominator)


def pairs_of(box):
    return tuple(pair(number) for number in box)


def cut(box, weights, side):
    left, top, wide, high = box
    found = []
    for weight in weights:
        share = Fraction(weight, sum(weights))
        if side == "down":
            found.append((left, top, wide, high * share))
            top += high * share
        else:
            found.append((left, top, wide * share, high))
            left += wide * share
    return found


def shape_of(box):
    return max(box[2] / box[3], box[3] / box[2])


def other(side):
    return {"down": "across", "across": "down"}[side]


def rows_of(weights, sizes):
    found, rest = [], list(weights)
    for size in sizes:
        found.append(rest[:size])
        rest = rest[size:]
    return found


def all_laid(box, weights, sizes, side):
    rows = rows_of(weights, sizes)
    slabs = cut(box, [sum(row) for row in rows], side)
    return [thing for slab, row in zip(slabs, rows) for thing in cut(slab, row, other(side))]


def worst_of(box, weights, sizes, side):
    return max(shape_of(thing) for thing in all_laid(box, weights, sizes, side))


def all_sizes(many):
    """All tuples of numbers from 1 on that come to a number, in the order of tuples."""
    if many == 0:
        return [()]
    return [(size,) + rest for size in range(1, many + 1) for rest in all_sizes(many - size)]


def shape_of_row(box, weights, first, size, side):
    """The row's greatest shape where each other thing has a row of its own."""
    many = len(weights)
    sizes = (1,) * first + (size,) + (1,) * (many - first - size)
    return max(shape_of(thing) for thing in all_laid(box, weights, sizes, side)[first:first + size])


def all_trees(many):
    if many == 1:
        return [()]
    return [(side, first, second) for side in ("down", "across") for at in range(1, many)
            for first in all_trees(at) for second in all_trees(many - at)]


def things_in(tree):
    return 1 if tree == () else things_in(tree[1]) + things_in(tree[2])


def halves(box, weights, at, side):
    one, two = cut(box, [sum(weights[:at]), sum(weights[at:])], side)
    return [(one, weights[:at]), (two, weights[at:])]


def all_sliced(box, weights, tree):
    if tree == ():
        return [box]
    first, second = halves(box, weights, things_in(tree[1]), tree[0])
    return all_sliced(*first, tree[1]) + all_sliced(*second, tree[2])


def least_sliced(box, weights):
    return min(max(map(shape_of, all_sliced(box, weights, tree))) for tree in all_trees(len(weights)))


def is_paper(box, weights, bound, paper):
    if len(weights) == 1:
        return paper == () and shape_of(box) >= bound
    ways = [halves(box, weights, at, side) for side in ("down", "across") for at in range(1, len(weights))]
    return len(paper) == len(ways) and all(
        is_paper(*ways[place][half], bound, within) for place, (half, within) in enumerate(paper))


def ends_of(sizes):
    """Of each row the place of its first thing and the place behind its last."""
    return [(sum(sizes[:at]), sum(sizes[:at + 1])) for at in range(len(sizes))]


def shapes_of_rows(box, weights, side):
    """All rows' shapes in a box of parts, as fractions, by the places where they begin and end."""
    many = len(weights)
    whole = fractions_of(box)
    return {(first, end): shape_of_row(whole, weights, first, end - first, side)
            for first in range(many) for end in range(first + 1, many + 1)}


def cost_of(sizes, kept):
    return sum((first, end - first) not in kept for first, end in ends_of(sizes))


def calm_of_all(shapes, many, bound, kept):
    """The sizes within the bound that cost the least, the first of them, and their cost; or None."""
    costs = {sizes: cost_of(sizes, kept) for sizes in all_sizes(many)
             if all(shapes[row] <= bound for row in ends_of(sizes))}
    if not costs:
        return None
    return min(costs, key=lambda sizes: (costs[sizes], sizes)), min(costs.values())


def numbers_of_all(shapes, many, bound, kept):
    """The least cost of all rows within the bound that lead to each beginning, or None."""
    found = []
    for place in range(many + 1):
        calm = calm_of_all(shapes, place, bound, kept)
        found.append(None if calm is None else calm[1])
    return found


def is_shown(shapes, many, bound, kept, told):
    """Point 13, word by word."""
    if len(told) != many + 1 or told[0] != 0:
        return False
    for (first, end), shape in shapes.items():
        if shape <= bound and told[first] is not None:
            if told[end] is None or told[end] > told[first] + ((first, end - first) not in kept):
                return False
    return True


def nearest_line(edge, many, length):
    return min(range(many + 1), key=lambda line: (abs(edge - Fraction(line * length, many)), line))


def all_drawn(boxes, wide, high, columns, rows):
    """All names that each square has."""
    found = [[[] for _ in range(columns)] for _ in range(rows)]
    for name, (left, top, width, height) in boxes.items():
        for row in range(nearest_line(top, rows, high), nearest_line(top + height, rows, high)):
            for column in range(nearest_line(left, columns, wide), nearest_line(left + width, columns, wide)):
                found[row][column].append(name)
    return found


def edge_in_common(one, other):
    beside = min(one[0] + one[2], other[0] + other[2]) - max(one[0], other[0])
    beneath = min(one[1] + one[3], other[1] + other[3]) - max(one[1], other[1])
    if beside == 0 and beneath > 0:
        return beneath
    if beneath == 0 and beside > 0:
        return beside
    return Fraction(0)


def all_ways(boxes, one, other):
    """All rows of unlike names from one to the other, each a neighbour of the one ahead."""
    found = []
    ways = [[one]]
    while ways:
        found.extend(way for way in ways if way[-1] == other)
        ways = [way + [name] for way in ways for name in boxes
                if name not in way and edge_in_common(boxes[way[-1]], boxes[name]) > 0]
    return found
