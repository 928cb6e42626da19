"""A house by the words of points 16 to 22, reckoned plainly with fractions and all sizes, to hold the program against."""

import copy
from fractions import Fraction

from plainly import (all_drawn, all_laid, all_sizes, calm_of_all, cost_of, edge_in_common, ends_of, pair,
                     pairs_of, shape_of, shapes_of_rows)

WORDS = {"put": 4, "nest": 3, "weigh": 2, "take": 1, "move": 3, "side": 2, "box": 2, "bound": 1, "anew": 1}


class No(Exception):
    """A refusal: the class's name and its field, where it has one."""


def is_number(thing):
    return type(thing) is int


def is_name(thing):
    return type(thing) is str and thing.islower() and thing.isascii() and thing.isalpha() and len(thing) <= 8


class Plain:
    def __init__(self, wide, high, bound=(2, 1), side="down"):
        self.now = {"size": (wide, high), "bound": bound, "loads": {},
                    "nests": {"": {"side": side, "children": [], "rows": []}}}
        self.back, self.again = [], []

    # What is asked.

    def nests(self):
        return self.now["nests"]

    def children(self, nest):
        return self.nests()[nest]["children"]

    def rows(self, nest):
        return self.nests()[nest]["rows"]

    def names(self):
        return sorted(list(self.now["loads"]) + [nest for nest in self.nests() if nest])

    def weight(self, name):
        if name in self.now["loads"]:
            return self.now["loads"][name]
        return sum(self.weight(child) for child in self.children(name))

    def parent(self, name):
        for nest, told in self.nests().items():
            if name in told["children"]:
                return nest

    def around(self, name):
        """The nests around a name, from the innermost out."""
        return [] if name == "" else [self.parent(name)] + self.around(self.parent(name))

    def within(self, name):
        """The name itself and all in it."""
        found = [name]
        for child in self.children(name) if name in self.nests() else []:
            found += self.within(child)
        return found

    def preorder(self, nest=""):
        found = [nest]
        for child in self.children(nest):
            if child in self.nests():
                found += self.preorder(child)
        return found

    def weighty(self, nest):
        return [child for child in self.children(nest) if self.weight(child) > 0]

    def all_boxes(self):
        """The boxes, in fractions, of all that have weight."""
        found = {}
        if self.weight("") > 0:
            found[""] = (Fraction(0), Fraction(0), Fraction(self.now["size"][0]), Fraction(self.now["size"][1]))
            self.lay("", found)
        return found

    def lay(self, nest, found):
        names = self.weighty(nest)
        weights = [self.weight(name) for name in names]
        sizes = [len(row) for row in self.rows(nest)]
        for name, box in zip(names, all_laid(found[nest], weights, sizes, self.nests()[nest]["side"])):
            found[name] = box
            if name in self.nests():
                self.lay(name, found)

    def thing_boxes(self):
        boxes = self.all_boxes()
        return {name: boxes[name] for name in sorted(self.now["loads"])}

    def neighbours(self, name):
        boxes = self.thing_boxes()
        return [(other, pair(edge_in_common(boxes[name], boxes[other]))) for other in boxes
                if other != name and edge_in_common(boxes[name], boxes[other]) > 0]

    def ways(self, one):
        """The way to each thing."""
        boxes = self.thing_boxes()
        beside = {name: [other for other in boxes if other != name and edge_in_common(boxes[name], boxes[other]) > 0]
                  for name in boxes}
        found, last = {one: [one]}, [[one]]
        while last:
            longer = sorted(way + [name] for way in last for name in beside[way[-1]] if name not in found)
            last = []
            for way in longer:
                if way[-1] not in found:
                    found[way[-1]] = way
                    last.append(way)
        return found

    def squares(self, columns, rows):
        if not self.now["loads"]:
            return []
        drawn = all_drawn(self.thing_boxes(), *self.now["size"], columns, rows)
        assert all(len(names) == 1 for row in drawn for names in row)
        return [[names[0] for names in row] for row in drawn]

    def page(self):
        lines = ["box {} {} {}".format(*self.now["size"], part_text(self.now["bound"]))]
        for nest in self.preorder():
            told = self.nests()[nest]
            children = ",".join(child if child in self.nests() else f"{child}:{self.weight(child)}"
                                for child in told["children"])
            sizes = "+".join(str(len(row)) for row in told["rows"])
            lines.append(f"nest {nest or '-'} {told['side']} {children or '-'} {sizes or '-'}")
        return "\n".join(lines) + "\n"

    # What is done.

    def do(self, deed):
        return self.together([deed])

    def together(self, deeds):
        held, boxes = copy.deepcopy(self.now), self.all_boxes()
        anew = 0
        try:
            for deed in deeds:
                anew += self.done(deed)
        except No:
            self.now = held
            raise
        if deeds:
            self.back.append(held)
            self.again = []
        behind = self.all_boxes()
        return anew, sorted(name for name in boxes if name and name in behind and boxes[name] != behind[name])

    def undo(self):
        if not self.back:
            raise No("NothingLeft")
        self.again.append(self.now)
        self.now = self.back.pop()

    def redo(self):
        if not self.again:
            raise No("NothingLeft")
        self.back.append(self.now)
        self.now = self.again.pop()

    def done(self, deed):
        if type(deed) is not tuple or not deed or type(deed[0]) is not str or WORDS.get(deed[0]) != len(deed) - 1:
            raise No("BadDeed")
        self.now = copy.deepcopy(self.now)
        getattr(self, "do_" + deed[0])(*deed[1:])
        return self.settle(deed)

    def settle(self, deed):
        anew = 0
        for nest in self.preorder():
            names = self.weighty(nest)
            told = self.nests()[nest]
            places = [(at, size) for at in range(len(names)) for size in range(1, len(names) - at + 1)]
            kept = [(at, size) for at, size in places if names[at:at + size] in told["rows"]]
            told["rows"] = []
            if names:
                sizes = self.sizes(nest, names, kept, deed == ("anew", nest))
                told["rows"] = [names[first:end] for first, end in ends_of(sizes)]
                anew += cost_of(sizes, kept)
        return anew

    def sizes(self, nest, names, kept, fresh):
        shapes = shapes_of_rows(pairs_of(self.all_boxes_to(nest)), [self.weight(name) for name in names],
                                self.nests()[nest]["side"])
        calm = calm_of_all(shapes, len(names), Fraction(*self.now["bound"]), kept)
        if calm is not None and not fresh:
            return calm[0]
        return min(all_sizes(len(names)), key=lambda sizes: (max(shapes[row] for row in ends_of(sizes)), sizes))

    def all_boxes_to(self, nest):
        """The box of a nest, those around which have their rows already."""
        if nest == "":
            return (Fraction(0), Fraction(0), Fraction(self.now["size"][0]), Fraction(self.now["size"][1]))
        around = self.parent(nest)
        names = self.weighty(around)
        sizes = [len(row) for row in self.rows(around)]
        boxes = all_laid(self.all_boxes_to(around), [self.weight(name) for name in names], sizes,
                         self.nests()[around]["side"])
        return boxes[names.index(nest)]

    def check_new(self, name, nest, at):
        if not is_name(name):
            raise No("BadName")
        if name in self.names():
            raise No("Taken", name)
        self.check_nest(nest)
        self.check_place(at, len(self.children(nest)))

    def check_nest(self, nest):
        if type(nest) is not str or nest not in self.nests():
            raise No("NoNest", nest)

    def check_place(self, at, many):
        if not is_number(at) or at < 0 or at > many:
            raise No("BadPlace")

    def check_weight(self, weight):
        if not is_number(weight) or weight < 1 or weight > 10000:
            raise No("BadWeight")

    def check_full(self, nest):
        if len(self.names()) >= 40:
            raise No("Full", "names")
        if len(self.children(nest)) >= 12:
            raise No("Full", "children")
        if len(self.around(nest)) + 1 > 4:
            raise No("Full", "deep")

    def do_put(self, name, nest, at, weight):
        self.check_new(name, nest, at)
        self.check_weight(weight)
        self.check_full(nest)
        self.now["loads"][name] = weight
        self.children(nest).insert(at, name)

    def do_nest(self, name, nest, at):
        self.check_new(name, nest, at)
        self.check_full(nest)
        self.nests()[name] = {"side": self.nests()[nest]["side"], "children": [], "rows": []}
        self.children(nest).insert(at, name)

    def do_weigh(self, name, weight):
        if type(name) is not str or name not in self.now["loads"]:
            raise No("NoName", name)
        self.check_weight(weight)
        self.now["loads"][name] = weight

    def do_take(self, name):
        if type(name) is not str or name not in self.names():
            raise No("NoName", name)
        if name in self.nests() and self.children(name):
            raise No("NotEmpty", name)
        self.children(self.parent(name)).remove(name)
        self.now["loads"].pop(name, None)
        self.nests().pop(name, None)

    def do_move(self, name, nest, at):
        if type(name) is not str or name not in self.names():
            raise No("NoName", name)
        self.check_nest(nest)
        if nest in self.within(name):
            raise No("Within", name)
        others = [child for child in self.children(nest) if child != name]
        self.check_place(at, len(others))
        if len(others) >= 12:
            raise No("Full", "children")
        deepest = max(len(self.around(one)) - len(self.around(name)) for one in self.within(name))
        if len(self.around(nest)) + 1 + deepest > 4:
            raise No("Full", "deep")
        self.children(self.parent(name)).remove(name)
        self.children(nest).insert(at, name)

    def do_side(self, nest, side):
        self.check_nest(nest)
        if type(side) is not str or side not in ("down", "across"):
            raise No("BadSide")
        self.nests()[nest].update(side=side, rows=[])

    def do_box(self, wide, high):
        if not all(is_number(length) and 1 <= length <= 1000 for length in (wide, high)):
            raise No("BadBox")
        self.now["size"] = (wide, high)

    def do_bound(self, bound):
        if type(bound) is not tuple or len(bound) != 2 or not all(map(is_number, bound)) or bound[1] < 1:
            raise No("BadBound")
        if pair(Fraction(*bound)) != bound or bound[0] < bound[1] or len(str(bound[0])) > 30:
            raise No("BadBound")
        self.now["bound"] = bound

    def do_anew(self, nest):
        self.check_nest(nest)


def part_text(one):
    return str(one[0]) if one[1] == 1 else f"{one[0]}/{one[1]}"


def answers(house, plain):
    """What a house tells, asked for all that it can tell, beside what it should."""
    now, boxes, things = plain.now, plain.all_boxes(), plain.thing_boxes()
    yield house.size(), now["size"]
    yield house.bound(), now["bound"]
    yield house.names(), plain.names()
    yield len(house), len(things)
    yield repr(house), f"House({now['size'][0]} x {now['size'][1]}, {len(things)} things)"
    yield house.steps(), (len(plain.back), len(plain.again))
    for name in plain.names() + [""]:
        yield house.is_nest(name), name in plain.nests()
        yield house.weight(name), plain.weight(name)
        if name in boxes:
            yield house.box(name), pairs_of(boxes[name])
        if name:
            yield house.place(name), (plain.parent(name), plain.children(plain.parent(name)).index(name))
    for nest, told in plain.nests().items():
        yield house.children(nest), told["children"]
        yield house.rows(nest), told["rows"]
        yield house.side(nest), told["side"]
    yield list(house.boxes().items()), [(name, pairs_of(box)) for name, box in things.items()]
    yield house.worst(), pair(max(map(shape_of, things.values()))) if things else None
    for name, box in list(things.items())[::3]:
        yield house.neighbours(name), plain.neighbours(name)
        yield house.under(pair(box[0]), pair(box[1])), name
        yield house.under(pair(box[0] + box[2] / 3), pair(box[1] + box[3] * Fraction(99, 100))), name
    for one in list(things)[:1]:
        yield {other: house.way(one, other) for other in things}, plain.ways(one)
    yield house.squares(5, 7), plain.squares(5, 7)
