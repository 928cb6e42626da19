"""Houses: things and nests cut into a box by their weights, kept calm through deeds, takings back and twins."""

from calmcuts.boxes import DOWN, check_lengths, check_side, holds, shape
from calmcuts.deeds import check_limit, done
from calmcuts.errors import BadDeed, Bare, NothingLeft
from calmcuts.parts import greatest_of
from calmcuts.plan import OUTERMOST, Plan, add_nest, boxes_in, check_child, check_name, check_nest, names_in
from calmcuts.plan import nest_around, told_of, weights_in
from calmcuts.squares import check_squares, drawn
from calmcuts.ways import neighbours, way

BOUND = (2, 1)


class House:
    """A box with nests of things, changed by deeds only; of each it tells what was cut anew and what moved."""

    def __init__(self, wide, high, *, bound=BOUND, side=DOWN):
        check_lengths(wide, high)
        check_limit(bound)
        check_side(side)
        self._plan = Plan(wide, high, bound)
        add_nest(self._plan, OUTERMOST, side)
        # The plans that undo and redo come back to, the nearest one last.
        self._back = []
        self._again = []

    def put(self, name, nest, at, weight):
        """Put a thing more at a place of a nest."""
        return self.do(("put", name, nest, at, weight))

    def nest(self, name, nest, at):
        """Put a nest without children at a place of a nest."""
        return self.do(("nest", name, nest, at))

    def weigh(self, name, weight):
        """Give a thing another weight."""
        return self.do(("weigh", name, weight))

    def take(self, name):
        """Take a thing, or a nest without children, away."""
        return self.do(("take", name))

    def move(self, name, nest, at):
        """Move a thing or nest to a place of a nest."""
        return self.do(("move", name, nest, at))

    def turn(self, nest, side):
        """Give a nest a side, and let all its rows go."""
        return self.do(("side", nest, side))

    def resize(self, wide, high):
        """Give the house another width and height."""
        return self.do(("box", wide, high))

    def bind(self, bound):
        """Give the house another bound."""
        return self.do(("bound", bound))

    def anew(self, nest):
        """Cut a nest as well as can be."""
        return self.do(("anew", nest))

    def do(self, deed):
        """Do a deed, and tell how many rows are cut anew and what names have another box."""
        return self.together([deed])

    def together(self, deeds):
        """Do deeds as one, and tell of them all; where one of them is refused, none is done."""
        if not isinstance(deeds, (list, tuple)):
            raise BadDeed()
        ahead = self._plan
        behind = ahead
        anew = 0
        for deed in deeds:
            behind, more = done(behind, deed)
            anew += more
        if len(deeds) > 0:
            self._back.append(ahead)
            self._again = []
            self._plan = behind
        return (anew, _moved(ahead, behind))

    def undo(self):
        """Take the last deed, or row of deeds, back."""
        if len(self._back) == 0:
            raise NothingLeft()
        self._again.append(self._plan)
        self._plan = self._back.pop()

    def redo(self):
        """Do again what was taken back last."""
        if len(self._again) == 0:
            raise NothingLeft()
        self._back.append(self._plan)
        self._plan = self._again.pop()

    def size(self):
        """The width and height."""
        return (self._plan.wide, self._plan.high)

    def bound(self):
        """The bound."""
        return self._plan.limit

    def names(self):
        """The rising list of the names of all things and nests but the outermost one."""
        return names_in(self._plan)

    def is_nest(self, name):
        """Whether what has this name is a nest."""
        check_name(self._plan, name)
        return name in self._plan.orders

    def children(self, nest):
        """The names of what lies in a nest, in order."""
        check_nest(self._plan, nest)
        return list(self._plan.orders[nest])

    def rows(self, nest):
        """The rows of a nest, each a list of its children's names."""
        check_nest(self._plan, nest)
        return [list(row) for row in self._plan.cuts[nest]]

    def side(self, nest):
        """The side of a nest."""
        check_nest(self._plan, nest)
        return self._plan.sides[nest]

    def weight(self, name):
        """The weight of a thing, or of all things in a nest."""
        check_name(self._plan, name)
        return weights_in(self._plan)[name]

    def place(self, name):
        """The nest in which a thing or nest lies, and at which place of it."""
        check_child(self._plan, name)
        nest = nest_around(self._plan, name)
        return (nest, self._plan.orders[nest].index(name))

    def box(self, name):
        """The box of a thing or nest."""
        check_name(self._plan, name)
        boxes = boxes_in(self._plan)
        if name not in boxes:
            raise Bare(name)
        return boxes[name]

    def boxes(self):
        """A dict from the things' names, rising, to their boxes."""
        boxes = boxes_in(self._plan)
        return {name: boxes[name] for name in sorted(list(self._plan.loads))}

    def under(self, x, y):
        """The name of the thing in whose box a point lies, or the empty text."""
        for name, box in self.boxes().items():
            if holds(box, x, y):
                return name
        return ""

    def worst(self):
        """The greatest shape of all things, or None where there is none."""
        shapes = [shape(box) for box in list(self.boxes().values())]
        return greatest_of(shapes) if len(shapes) > 0 else None

    def neighbours(self, name):
        """The rising list of the things that touch this one, each with the length of the edge in common."""
        return neighbours(self.boxes(), name)

    def way(self, one, other):
        """The names from one thing to another, each a neighbour of the one ahead, as few as can be."""
        return way(self.boxes(), one, other)

    def squares(self, columns, rows):
        """All things drawn on squares; no rows where there is none."""
        check_squares(columns, rows)
        if len(self._plan.loads) == 0:
            return []
        return drawn(self.boxes(), self._plan.wide, self._plan.high, columns, rows)

    def steps(self):
        """How many steps can be taken back, and how many done again."""
        return (len(self._back), len(self._again))

    def twin(self):
        """A house that is as this one, and can take back and do again what this one can."""
        found = house_of(self._plan)
        found._back = list(self._back)
        found._again = list(self._again)
        return found

    def __eq__(self, other):
        return isinstance(other, House) and told_of(self._plan) == told_of(other._plan)

    def __len__(self):
        return len(self._plan.loads)

    def __repr__(self):
        return f"House({self._plan.wide} x {self._plan.high}, {len(self._plan.loads)} things)"


def house_of(plan):
    """A house that is as a plan tells, with nothing to take back or do again."""
    found = House(plan.wide, plan.high)
    found._plan = plan
    return found


def _moved(ahead, behind):
    """The rising list of names that have a box in both plans, but another one."""
    boxes_ahead = boxes_in(ahead)
    boxes_behind = boxes_in(behind)
    names = [name for name in names_in(behind) if name in boxes_ahead and name in boxes_behind]
    return [name for name in names if boxes_ahead[name] != boxes_behind[name]]
