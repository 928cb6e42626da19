"""Plans: what a house is at one time. None is changed once a house has it, so that houses may have plans in common."""

from calmcuts.boxes import box_of
from calmcuts.errors import NoName, NoNest
from calmcuts.rows import laid, row_ends

OUTERMOST = ""


class Plan:
    """A width and height, a bound, the limit, and dicts, by names, of all nests and things, at first of none.

    Of the nests there are the sides, the orders of the children's names and the cuts, the rows of those with weight;
    of the things the loads, their weights.
    """

    def __init__(self, wide, high, limit):
        self.wide = wide
        self.high = high
        self.limit = limit
        self.sides = {}
        self.orders = {}
        self.cuts = {}
        self.loads = {}


def copied(plan):
    """A plan like this one, which may be changed."""
    found = Plan(plan.wide, plan.high, plan.limit)
    found.sides = dict(plan.sides)
    found.orders = dict(plan.orders)
    found.cuts = dict(plan.cuts)
    found.loads = dict(plan.loads)
    return found


def add_nest(plan, name, side):
    """Give a plan a nest without children, which is not in the order of any other one yet."""
    plan.sides[name] = side
    plan.orders[name] = ()
    plan.cuts[name] = ()


def told_of(plan):
    """All that a plan tells, so that plans can be compared."""
    return (plan.wide, plan.high, plan.limit, plan.sides, plan.orders, plan.cuts, plan.loads)


def is_thing_in(plan, thing):
    """Whether a thing is the name of a thing that lies in a nest."""
    # Asked ahead of the dict, for not each thing can be looked up in one.
    return isinstance(thing, str) and thing in plan.loads


def is_nest_in(plan, thing):
    """Whether a thing is the name of a nest, the outermost one's too."""
    return isinstance(thing, str) and thing in plan.orders


def check_nest(plan, thing):
    """Refuse what is no nest's name."""
    if not is_nest_in(plan, thing):
        raise NoNest(thing)


def check_name(plan, thing):
    """Refuse what is no name of a thing or nest; the outermost one's is one here."""
    if not is_thing_in(plan, thing) and not is_nest_in(plan, thing):
        raise NoName(thing)


def check_child(plan, thing):
    """Refuse what is no name of a thing or nest that lies in a nest."""
    check_name(plan, thing)
    if thing == OUTERMOST:
        raise NoName(thing)


def names_in(plan):
    """The rising list of the names of all things and nests but the outermost one."""
    return sorted([name for name in list(plan.loads) + list(plan.orders) if name != OUTERMOST])


def nest_around(plan, name):
    """The name of the nest in which a thing or nest lies."""
    return [nest for nest, order in plan.orders.items() if name in order][0]


def nests_around(plan, name):
    """The names of all nests around a thing or nest, from the innermost one out."""
    found = []
    while name != OUTERMOST:
        name = nest_around(plan, name)
        found.append(name)
    return found


def levels_in(plan, name):
    """How many nests more there are around what lies deepest in a thing or nest than around itself."""
    if name not in plan.orders:
        return 0
    return max([1 + levels_in(plan, child) for child in plan.orders[name]], default=0)


def nests_from(plan, nest):
    """The names of a nest and of those in it, each followed by its own, in order."""
    found = [nest]
    for child in plan.orders[nest]:
        if child in plan.orders:
            found.extend(nests_from(plan, child))
    return found


def with_weight(plan, nest, weights):
    """The names, in order, of the children with weight."""
    return [name for name in plan.orders[nest] if weights[name] > 0]


def weights_in(plan):
    """A dict with the weight of each thing and nest, nought where a nest has no things."""
    found = dict(plan.loads)
    # From the innermost nests out, so that each one's children have their weights already.
    for nest in reversed(nests_from(plan, OUTERMOST)):
        found[nest] = sum([found[child] for child in plan.orders[nest]])
    return found


def rows_by_sizes(names, sizes):
    """The rows, of told sizes, of names, as cuts have them."""
    return tuple([tuple(names[begin:end]) for begin, end in row_ends(sizes)])


def outermost_box(plan, weights):
    """A dict with the box of the outermost nest; empty where it has no weight."""
    return {OUTERMOST: box_of(plan.wide, plan.high)} if weights[OUTERMOST] > 0 else {}


def add_boxes(plan, nest, weights, boxes):
    """Put the boxes of a nest's children, by its own box among them and by its cuts, into a dict."""
    names = [name for row in plan.cuts[nest] for name in row]
    sizes = tuple([len(row) for row in plan.cuts[nest]])
    told = laid(boxes[nest], [weights[name] for name in names], sizes, side=plan.sides[nest])
    for name, box in zip(names, told):
        boxes[name] = box


def boxes_in(plan):
    """A dict with the box of each thing and nest that has weight."""
    weights = weights_in(plan)
    found = outermost_box(plan, weights)
    for nest in nests_from(plan, OUTERMOST):
        if nest in found:
            add_boxes(plan, nest, weights, found)
    return found
