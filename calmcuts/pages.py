"""Pages: houses written as texts and read from them."""

from calmcuts.boxes import DOWN, MOST_CHILDREN, check_lengths, is_side
from calmcuts.deeds import check_limit, nest_in, put_in
from calmcuts.errors import BadText, CutError
from calmcuts.house import house_of
from calmcuts.parts import part_text, read_part
from calmcuts.plan import OUTERMOST, Plan, add_nest, nests_from, rows_by_sizes, weights_in, with_weight
from calmcuts.words import NONE, is_figures, joined, read_figures


def page(house):
    """A house as a text, from which it can be read."""
    wide, high = house.size()
    lines = [f"box {wide} {high} {part_text(house.bound())}"] + _nest_lines(house, OUTERMOST)
    return "".join([line + "\n" for line in lines])


def read_page(text):
    """The house of which a page tells, with the rows that stand there."""
    lines = text.split("\n")
    # A page ends with a line feed, and so with nothing behind it.
    rest = lines.pop()
    if len(lines) == 0:
        raise BadText(0)
    plan = _read_box_line(lines[0])
    sizes = _read_nest_lines(plan, lines)
    if len(lines) > 1 + len(sizes) or rest != "":
        raise BadText(1 + len(sizes))
    _cut(plan, sizes)
    return house_of(plan)


def _nest_lines(house, nest):
    """The lines of a nest and of those in it, each followed by its own."""
    children = house.children(nest)
    told = joined([_child_word(house, child) for child in children])
    sizes = "+".join([str(len(row)) for row in house.rows(nest)])
    found = [f"nest {nest or NONE} {house.side(nest)} {told} {sizes or NONE}"]
    for child in children:
        if house.is_nest(child):
            found.extend(_nest_lines(house, child))
    return found


def _child_word(house, name):
    return name if house.is_nest(name) else f"{name}:{house.weight(name)}"


def _read_box_line(line):
    """A plan with what the first line tells, and with the outermost nest."""
    words = line.split(" ")
    if len(words) != 4 or words[0] != "box":
        raise BadText(0)
    wide, high = (read_figures(words[1]), read_figures(words[2]))
    bound = read_part(words[3])
    try:
        check_lengths(wide, high)
        check_limit(bound)
    except CutError:
        raise BadText(0) from None
    plan = Plan(wide, high, bound)
    add_nest(plan, OUTERMOST, DOWN)
    return plan


def _read_nest_lines(plan, lines):
    """Fill a plan by the lines behind the first, and tell the sizes of all nests in the lines' order."""
    found = []
    # The nests whose lines are still to come, the next one last.
    due = [OUTERMOST]
    while len(due) > 0:
        at = 1 + len(found)
        if at >= len(lines):
            raise BadText(at)
        nest = due.pop()
        found.append(_read_nest_line(plan, nest, lines[at], at))
        due.extend([child for child in reversed(plan.orders[nest]) if child in plan.orders])
    return found


def _read_nest_line(plan, nest, line, at):
    """Give a nest its side and children, and tell its sizes."""
    words = line.split(" ")
    if len(words) != 5 or words[0] != "nest" or words[1] != (nest or NONE) or not is_side(words[2]):
        raise BadText(at)
    plan.sides[nest] = words[2]
    try:
        _read_children(plan, nest, words[3])
        return _read_sizes(words[4])
    except CutError:
        raise BadText(at) from None


def _read_children(plan, nest, text):
    words = [] if text == NONE else text.split(",")
    for place, word in enumerate(words):
        name, colon, weight = word.partition(":")
        # What a deed refuses is nothing that may be there either.
        if colon == "":
            nest_in(plan, name, nest, place)
        else:
            put_in(plan, name, nest, place, read_figures(weight))


def _read_sizes(text):
    words = [] if text == NONE else text.split("+")
    if not all([is_figures(word) and word != "0" for word in words]):
        raise BadText(0)
    # What has more figures than a count of children is as good as any number above these.
    return [int(word) if len(word) <= 2 else MOST_CHILDREN + 1 for word in words]


def _cut(plan, sizes):
    """Give each nest the rows of the sizes that its line tells."""
    weights = weights_in(plan)
    for place, nest in enumerate(nests_from(plan, OUTERMOST)):
        names = with_weight(plan, nest, weights)
        if sum(sizes[place]) != len(names):
            raise BadText(1 + place)
        plan.cuts[nest] = rows_by_sizes(names, sizes[place])
