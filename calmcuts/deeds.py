"""Deeds: tuples of a word and of what it takes, each with what it refuses and what it changes."""

from calmcuts.boxes import MOST_CHILDREN, check_lengths, check_side
from calmcuts.errors import BadBound, BadDeed, BadName, BadPlace, BadWeight, Full, NoName, NotEmpty, Taken, Within
from calmcuts.parts import is_number
from calmcuts.plan import add_nest, check_child, check_nest, copied, is_nest_in, is_thing_in, levels_in, names_in
from calmcuts.plan import nest_around, nests_around
from calmcuts.rows import check_bound
from calmcuts.settle import settle

MOST_NAMES = 40
MOST_DEEP = 4
MOST_THING = 10000
MOST_SIGNS = 8
LETTERS = "abcdefghijklmnopqrstuvwxyz"


def done(plan, deed):
    """The plan as it is behind a deed, and how many rows are cut anew; the plan handed in stays as it is."""
    _check_deed(deed)
    word, *things = deed
    action = _ACTIONS[word]
    behind = copied(plan)
    # What is refused leaves half a change in the copy alone, which nobody has then.
    action(behind, *things)
    fresh = things[0] if word == "anew" else None
    return (behind, settle(behind, fresh))


def is_name(thing):
    """Whether a thing is a name that a thing or nest may have."""
    if not isinstance(thing, str) or not 1 <= len(thing) <= MOST_SIGNS:
        return False
    return all([sign in LETTERS for sign in thing])


def is_load(thing):
    """Whether a thing is a weight that a thing in a nest may have."""
    return is_number(thing) and 1 <= thing <= MOST_THING


def check_limit(thing):
    """Refuse what is no bound that a house may have."""
    check_bound(thing)
    # A bound is 1 or more, so that its number below has no more figures than the one above.
    if thing[0] >= 10 ** 30:
        raise BadBound()


def put_in(plan, name, nest, at, weight):
    """Put a thing more into a plan that may be changed, or refuse it."""
    _check_new(plan, name, nest, at)
    if not is_load(weight):
        raise BadWeight()
    _check_room_for_new(plan, nest)
    plan.loads[name] = weight
    _put_among(plan, name, nest, at)


def nest_in(plan, name, nest, at):
    """Put a nest without children into a plan that may be changed, or refuse it."""
    _check_new(plan, name, nest, at)
    _check_room_for_new(plan, nest)
    add_nest(plan, name, plan.sides[nest])
    _put_among(plan, name, nest, at)


def _weigh(plan, name, weight):
    if not is_thing_in(plan, name):
        raise NoName(name)
    if not is_load(weight):
        raise BadWeight()
    plan.loads[name] = weight


def _take(plan, name):
    check_child(plan, name)
    if name in plan.loads:
        del plan.loads[name]
    else:
        if len(plan.orders[name]) > 0:
            raise NotEmpty(name)
        del plan.sides[name], plan.orders[name], plan.cuts[name]
    _take_from_among(plan, name)


def _move(plan, name, nest, at):
    check_child(plan, name)
    check_nest(plan, nest)
    if nest == name or name in nests_around(plan, nest):
        raise Within(name)
    # Taken out ahead of the checks, for place and room are those of the nest without it.
    _take_from_among(plan, name)
    _check_place(plan, nest, at)
    _check_room(plan, nest, levels_in(plan, name))
    _put_among(plan, name, nest, at)


def _side(plan, nest, side):
    check_nest(plan, nest)
    check_side(side)
    plan.sides[nest] = side
    plan.cuts[nest] = ()


def _box(plan, wide, high):
    check_lengths(wide, high)
    plan.wide = wide
    plan.high = high


def _bound(plan, bound):
    check_limit(bound)
    plan.limit = bound


def _anew(plan, nest):
    # Nothing is changed here: how the nest is cut is for the settling to say.
    check_nest(plan, nest)


_ACTIONS = {"put": put_in, "nest": nest_in, "weigh": _weigh, "take": _take, "move": _move, "side": _side, "box": _box,
            "bound": _bound, "anew": _anew}
# How many things each word takes.
_MANY = {"put": 4, "nest": 3, "weigh": 2, "take": 1, "move": 3, "side": 2, "box": 2, "bound": 1, "anew": 1}


def _check_deed(thing):
    if not isinstance(thing, tuple) or len(thing) == 0 or not isinstance(thing[0], str):
        raise BadDeed()
    if len(thing) - 1 != _MANY.get(thing[0]):
        raise BadDeed()


def _check_new(plan, name, nest, at):
    if not is_name(name):
        raise BadName()
    if is_thing_in(plan, name) or is_nest_in(plan, name):
        raise Taken(name)
    check_nest(plan, nest)
    _check_place(plan, nest, at)


def _check_place(plan, nest, thing):
    if not is_number(thing) or not 0 <= thing <= len(plan.orders[nest]):
        raise BadPlace()


def _check_room_for_new(plan, nest):
    if len(names_in(plan)) >= MOST_NAMES:
        raise Full("names")
    _check_room(plan, nest, 0)


def _check_room(plan, nest, levels):
    """Refuse a child more, with so many nests within one another, in a nest that has no room for it."""
    if len(plan.orders[nest]) >= MOST_CHILDREN:
        raise Full("children")
    if 1 + len(nests_around(plan, nest)) + levels > MOST_DEEP:
        raise Full("deep")


def _put_among(plan, name, nest, at):
    order = plan.orders[nest]
    plan.orders[nest] = order[:at] + (name,) + order[at:]


def _take_from_among(plan, name):
    nest = nest_around(plan, name)
    plan.orders[nest] = tuple([child for child in plan.orders[nest] if child != name])
