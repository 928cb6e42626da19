"""Slices: a box split into two, and each half again, as a tree tells, until each thing has a box of its own."""

from calmcuts.boxes import ACROSS, DOWN, check_box, check_weights, is_side, shape, shares
from calmcuts.errors import BadSizes
from calmcuts.parts import ONE, greater, greatest_of, is_number, less, over, part, times
from calmcuts.rows import check_bound

MOST_SLICED = 6
MOST_REFUTED = 5

# What a search asks of a box is only its form, wide by high, for where it lies and how great it is changes no shape.


def sliced(box, weights, tree):
    """The things' boxes, in told order, where the box is split as the tree tells."""
    check_box(box)
    check_weights(weights)
    if _things_in(tree, MOST_SLICED) != len(weights):
        raise BadSizes()
    return _leaves(box, weights, tree)


def slices_worst(box, weights, tree):
    """The greatest shape of a tree's boxes."""
    return greatest_of([shape(one) for one in sliced(box, weights, tree)])


def best_slices(box, weights):
    """A tree whose worst shape is the least."""
    _check_few(box, weights, MOST_SLICED)
    _, tree = _best_of_form(_form(box), weights)
    return tree


def refuted(box, weights, bound):
    """A paper that shows that no tree has a worst shape below the bound, or None."""
    _check_few(box, weights, MOST_REFUTED)
    check_bound(bound)
    return _paper(_form(box), weights, bound)


def refutes(box, weights, bound, paper):
    """Whether a thing is a paper that shows that no tree has a worst shape below the bound."""
    _check_few(box, weights, MOST_REFUTED)
    check_bound(bound)
    return _is_paper(paper, _form(box), weights, bound)


def _check_few(box, weights, most):
    check_box(box)
    check_weights(weights)
    if len(weights) > most:
        raise BadSizes()


def _things_in(thing, most):
    """How many things a tree has; nought where the thing is no tree, or one of more things than that."""
    # Each step down leaves fewer things, so that nothing is looked into deeper than a tree can be.
    if most == 0 or not isinstance(thing, tuple):
        return 0
    if len(thing) == 0:
        return 1
    if len(thing) != 3 or not is_side(thing[0]):
        return 0
    first = _things_in(thing[1], most - 1)
    if first == 0:
        return 0
    second = _things_in(thing[2], most - first)
    return 0 if second == 0 else first + second


def _leaves(box, weights, tree):
    if len(tree) == 0:
        return [box]
    side, first, second = tree
    at = _things_in(first, len(weights))
    one, other = shares(box, [sum(weights[:at]), sum(weights[at:])], side)
    return _leaves(one, weights[:at], first) + _leaves(other, weights[at:], second)


def _form(box):
    return over(box[2], box[3])


def _shape_of_form(form):
    return greater(form, over(ONE, form))


def _splits(form, weights):
    """All splits into two, in the order of a paper's pairs: of each its side and its two halves (form, weights)."""
    found = []
    for side in (DOWN, ACROSS):
        for at in range(1, len(weights)):
            halves = [weights[:at], weights[at:]]
            found.append((side, [(_form_of_half(form, half, weights, side), half) for half in halves]))
    return found


def _form_of_half(form, half, weights, side):
    if side == DOWN:
        return times(form, part(sum(weights), sum(half)))
    return times(form, part(sum(half), sum(weights)))


def _best_of_form(form, weights):
    """The least worst shape that a tree has in such a box, and the first tree found that has it."""
    if len(weights) == 1:
        return (_shape_of_form(form), ())
    found = None
    for side, halves in _splits(form, weights):
        (one_worst, one), (other_worst, other) = [_best_of_form(half[0], half[1]) for half in halves]
        worst = greater(one_worst, other_worst)
        if found is None or less(worst, found[0]):
            found = (worst, (side, one, other))
    return found


def _paper(form, weights, bound):
    if len(weights) == 1:
        return None if less(_shape_of_form(form), bound) else ()
    pairs = []
    for _, halves in _splits(form, weights):
        pair = _pair(halves, bound)
        if pair is None:
            return None
        pairs.append(pair)
    return tuple(pairs)


def _pair(halves, bound):
    """What refutes the bound for the first of two halves that it can be refuted for, or None."""
    for at, (form, weights) in enumerate(halves):
        paper = _paper(form, weights, bound)
        if paper is not None:
            return (at, paper)
    return None


def _is_paper(thing, form, weights, bound):
    if not isinstance(thing, tuple):
        return False
    if len(weights) == 1:
        return len(thing) == 0 and not less(_shape_of_form(form), bound)
    splits = _splits(form, weights)
    if len(thing) != len(splits):
        return False
    return all([_is_pair(pair, cut[1], bound) for pair, cut in zip(thing, splits)])


def _is_pair(thing, halves, bound):
    if not isinstance(thing, tuple) or len(thing) != 2:
        return False
    if not is_number(thing[0]) or thing[0] not in (0, 1):
        return False
    form, weights = halves[thing[0]]
    return _is_paper(thing[1], form, weights, bound)
