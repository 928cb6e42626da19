"""Settling: behind a deed each nest gets its rows, of which as many stay as the bound lets."""

from calmcuts.best import best
from calmcuts.calm import calm, cost_of
from calmcuts.plan import OUTERMOST, add_boxes, nests_from, outermost_box, rows_by_sizes, weights_in, with_weight


def settle(plan, fresh):
    """Give each nest its cuts by the ones it has, the nest called fresh the best ones; tells how many are cut anew."""
    weights = weights_in(plan)
    boxes = outermost_box(plan, weights)
    anew = 0
    # From the outermost nest in, for a nest's box hangs on the cuts of those around it.
    for nest in nests_from(plan, OUTERMOST):
        if nest in boxes:
            anew += _cut(plan, nest, boxes[nest], weights, nest == fresh)
            add_boxes(plan, nest, weights, boxes)
        else:
            plan.cuts[nest] = ()
    return anew


def _cut(plan, nest, box, weights, is_fresh):
    names = with_weight(plan, nest, weights)
    loads = [weights[name] for name in names]
    kept = _kept_rows(plan.cuts[nest], names)
    found = None if is_fresh else calm(box, loads, plan.limit, kept, side=plan.sides[nest])
    if found is None:
        sizes = best(box, loads, side=plan.sides[nest])
        found = (sizes, cost_of(sizes, kept))
    plan.cuts[nest] = rows_by_sizes(names, found[0])
    return found[1]


def _kept_rows(rows, names):
    """Of those rows whose names still stand one behind the other the places where they begin, and their sizes."""
    found = []
    for row in rows:
        if row[0] in names:
            first = names.index(row[0])
            if tuple(names[first:first + len(row)]) == row:
                found.append((first, len(row)))
    return found
