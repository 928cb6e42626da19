"""Neighbours, boxes that touch, and the shortest ways from box to box over them."""

from calmcuts.boxes import touching
from calmcuts.errors import NoName
from calmcuts.parts import NOUGHT


def neighbours(boxes, name):
    """The rising list of those that touch the box of this name, each with the length of the edge in common."""
    _check_name(boxes, name)
    found = []
    for other in sorted(list(boxes)):
        length = touching(boxes[name], boxes[other])
        if length != NOUGHT:
            found.append((other, length))
    return found


def way(boxes, one, other):
    """The names from the one to the other, each a neighbour of the one ahead, as few as can be, or None."""
    _check_name(boxes, one)
    _check_name(boxes, other)
    steps = _steps_to(boxes, other)
    if one not in steps:
        return None
    found = [one]
    while steps[found[-1]] > 0:
        found.append(_next_step(boxes, found[-1], steps))
    return found


def _check_name(boxes, thing):
    # Asked ahead of the dict, for not each thing can be looked up in one.
    if not isinstance(thing, str) or thing not in boxes:
        raise NoName(thing)


def _steps_to(boxes, name):
    """A dict with the number of steps to this name from each that a way leads from."""
    found = {name: 0}
    reached = [name]
    while len(reached) > 0:
        further = []
        for here in reached:
            for beside, _ in neighbours(boxes, here):
                if beside not in found:
                    found[beside] = found[here] + 1
                    further.append(beside)
        reached = further
    return found


def _next_step(boxes, name, steps):
    """The first neighbour, in the order of names, that is a step nearer."""
    nearer = [pair[0] for pair in neighbours(boxes, name) if steps[pair[0]] < steps[name]]
    return nearer[0]
