"""A desk: deeds and questions for a house, told and answered in lines."""

from calmcuts.errors import BadText, CutError, Missing, NothingLeft
from calmcuts.parts import part_text, read_part
from calmcuts.plan import OUTERMOST
from calmcuts.words import NONE, joined, read_figures

# Of each word's line the kinds of words that stand behind it.
_DEEDS = {"put": ("name", "nest", "number", "number"), "nest": ("name", "nest", "number"), "weigh": ("name", "number"),
          "take": ("name",), "move": ("name", "nest", "number"), "side": ("nest", "side"), "box": ("number", "number"),
          "bound": ("part",), "anew": ("nest",)}
_OTHERS = {"undo": (), "redo": (), "where": ("name",), "at": ("part", "part"), "next": ("name",),
           "way": ("name", "name"), "worst": ()}


class Desk:
    """A desk of a house; what it answers is said in `say`."""

    def __init__(self, house):
        self.house = house

    def say(self, line):
        """The answer to a line."""
        words = line.split(" ")
        try:
            things = _read_things(words)
        except BadText:
            return "no line"
        try:
            return _answer(self.house, words[0], things)
        except (CutError, Missing, NothingLeft) as refusal:
            return f"no {refusal.called}"


def _read_things(words):
    """What stands behind a line's first word; BadText where the line has no form."""
    kinds = _DEEDS.get(words[0], _OTHERS.get(words[0]))
    if kinds is None or len(words) != 1 + len(kinds):
        raise BadText(0)
    return [_read_thing(kind, word) for kind, word in zip(kinds, words[1:])]


def _read_thing(kind, word):
    if kind == "part":
        return read_part(word)
    if kind == "number":
        return _read_number(word)
    if word == "":
        raise BadText(0)
    return OUTERMOST if kind == "nest" and word == NONE else word


def _read_number(word):
    if not word.startswith("-"):
        return read_figures(word)
    number = read_figures(word[1:])
    if number == 0:
        raise BadText(0)
    return -number


def _answer(house, word, things):
    if word in _DEEDS:
        anew, moved = house.do((word, *things))
        return f"{anew} {joined(moved)}"
    action = _ANSWERS[word]
    return action(house, *things)


def _undo(house):
    house.undo()
    return "done"


def _redo(house):
    house.redo()
    return "done"


def _where(house, name):
    return " ".join([part_text(number) for number in house.box(name)])


def _at(house, x, y):
    return house.under(x, y) or NONE


def _next(house, name):
    return joined([f"{other}:{part_text(length)}" for other, length in house.neighbours(name)])


def _way(house, one, other):
    return joined(house.way(one, other))


def _worst(house):
    found = house.worst()
    return NONE if found is None else part_text(found)


_ANSWERS = {"undo": _undo, "redo": _redo, "where": _where, "at": _at, "next": _next, "way": _way, "worst": _worst}
