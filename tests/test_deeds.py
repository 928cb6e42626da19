"""Point 17: the deeds, by their methods, by `do` and in `together`, what each refuses and in which order; point 2."""

import copy
import unittest

from calmcuts.deeds import MOST_DEEP, MOST_NAMES, MOST_THING
from calmcuts.errors import (BadBound, BadBox, BadDeed, BadName, BadPlace, BadSide, BadWeight, CutError, Full, Missing,
                             NoName, NoNest, NotEmpty, Taken, Within)
from calmcuts.house import House
from test_house import BAD_LENGTHS, NO_NAMES, asked, some_house
from things import BAD_BOUNDS, BAD_SIDES, GREAT, OTHER_KINDS, Prickly, named

# The method that does each word's deed.
METHODS = {"put": "put", "nest": "nest", "weigh": "weigh", "take": "take", "move": "move", "side": "turn",
           "box": "resize", "bound": "bind", "anew": "anew"}
GOOD = [("put", "z", "", 0, 1), ("nest", "z", "", 0), ("weigh", "a", 1), ("take", "a"), ("move", "a", "", 0),
        ("side", "", "down"), ("box", 3, 4), ("bound", (3, 1)), ("anew", "")]
NO_NUMBERS = [thing for thing in OTHER_KINDS if type(thing) is not int] + [1.0, "1", b"1", (1,), [1], None, True, False]
BAD_PLACES = NO_NUMBERS + [-1, -2, GREAT, -GREAT, 5, 40]
BAD_LOADS = NO_NUMBERS + [0, -1, 10001, 400000, GREAT, -GREAT]
BAD_NAMES = NO_NAMES[:-8] + ["", " ", "-", "a ", " a", "a\n", "\na", "A", "aB", "abcdefghi", "a" * 20000, "1", "a1",
                             "a-b", "a:b", "a,b", "a/b", "[", "`", "{", "a{", [], {}, ["a"], {"a": 1}]


def by_method(house, deed):
    return getattr(house, METHODS[deed[0]])(*deed[1:])


def by_do(house, deed):
    return house.do(deed)


def in_a_row(house, deed):
    return house.together([deed])


def in_a_tuple(house, deed):
    return house.together((deed,))


def behind_others(house, deed):
    """Where one deed of a row is refused none of them is done."""
    return house.together([("bound", (7, 2)), ("side", "m", "across"), ("nest", "late", "p", 0), deed,
                           ("take", "there is none")])


WAYS = (by_method, by_do, in_a_row, in_a_tuple)
ABSENT = object()


class Deeds(unittest.TestCase):
    SOME = some_house()
    # What it can do again is there to be lost.
    SOME.take("b")
    SOME.undo()

    def refused(self, refusal, deed, field=ABSENT, house=SOME):
        """The deed is refused, in each way in which it can be done, and all is as it was."""
        for way in WAYS + (behind_others,) if house is self.SOME else WAYS:
            tried = house.twin()
            with self.subTest(f"{way.__name__} {named(deed)}"):
                with self.assertRaises(refusal) as caught:
                    way(tried, deed)
                self.assertIs(type(caught.exception), refusal)
                fields = vars(caught.exception)
                self.assertEqual(fields.pop("called"), refusal.__name__)
                self.assertEqual(len(fields), 0 if field is ABSENT else 1)
                for found in fields.values():
                    self.assertIs(found, field) if type(found) is not str else self.assertEqual(found, field)
                self.assertTrue(tried == house)
                self.assertEqual([tried.steps(), tried.boxes()], [house.steps(), house.boxes()])

    def done(self, deed, check):
        """The deed is done alike in each way, and a check holds behind it."""
        told = [way(house, deed) for way, house in [(way, some_house()) for way in WAYS]]
        self.assertEqual(told, told[:1] * len(told))
        for way in WAYS:
            house = some_house()
            anew, moved = way(house, deed)
            self.assertIs(type(anew), int)
            self.assertIs(type(moved), list)
            check(house)
            self.assertEqual(house.steps(), (2, 0))


class Done(Deeds):
    def test_the_numbers(self):
        self.assertEqual([MOST_NAMES, MOST_DEEP, MOST_THING], [40, 4, 10000])

    def test_put(self):
        for at in range(5):
            self.done(("put", "z", "", at, 9), lambda house: self.assertEqual(
                [house.place("z"), house.weight("z"), house.weight("")], [("", at), 9, 25]))
        for at in range(3):
            self.done(("put", "abcdefgh", "m", at, 10000), lambda house: self.assertEqual(
                [house.place("abcdefgh"), house.weight("n")], [("m", at), 10007]))
        self.done(("put", "z", "o", 0, 1), lambda house: self.assertEqual(house.box("o"), house.box("z")))

    def test_nest(self):
        for at in range(5):
            self.done(("nest", "z", "", at), lambda house: self.assertEqual(
                [house.place("z"), house.is_nest("z"), house.children("z"), house.rows("z"), house.side("z")],
                [("", at), True, [], [], "down"]))
        house = some_house()
        house.turn("m", "across")
        house.nest("z", "m", 1)
        self.assertEqual(house.side("z"), "across")
        house.nest("y", "n", 1)
        self.assertEqual(house.side("y"), "down")
        self.assertEqual(house.nest("x", "y", 0), (0, []))

    def test_weigh(self):
        for weight in (1, 6, 10000):
            self.done(("weigh", "a", weight), lambda house: self.assertEqual(house.weight("a"), weight))

    def test_take(self):
        self.done(("take", "a"), lambda house: self.assertEqual(
            [house.names(), house.children("")], [list("bcdemnop"), ["p", "n", "e"]]))
        self.done(("take", "o"), lambda house: self.assertEqual(
            [house.names(), house.children("n")], [list("abcdemnp"), ["b", "m"]]))
        house = some_house()
        house.take("o")
        self.assertRaises(NoNest, house.children, "o")
        self.assertRaises(NoName, house.is_nest, "o")
        house.put("o", "", 0, 1)
        self.assertIs(house.is_nest("o"), False)

    def test_move(self):
        for at, order in enumerate((["e", "p", "a", "n"], ["p", "e", "a", "n"], ["p", "a", "e", "n"],
                                    ["p", "a", "n", "e"])):
            self.done(("move", "e", "", at), lambda house: self.assertEqual(house.children(""), order))
        for at, order in enumerate((["n", "p", "a", "e"], ["p", "n", "a", "e"], ["p", "a", "n", "e"],
                                    ["p", "a", "e", "n"])):
            self.done(("move", "n", "", at), lambda house: self.assertEqual(house.children(""), order))
        self.done(("move", "m", "p", 0), lambda house: self.assertEqual(
            [house.children("p"), house.children("n"), house.children("m"), house.weight("p")],
            [["m"], ["b", "o"], ["c", "d"], 3]))
        self.done(("move", "c", "", 2), lambda house: self.assertEqual(house.children(""), ["p", "a", "c", "n", "e"]))

    def test_a_move_keeps_the_nest_as_it_is(self):
        house = some_house()
        house.bind((1000, 1))
        house.turn("m", "across")
        rows = house.rows("m")
        house.move("m", "", 0)
        self.assertEqual([house.side("m"), house.rows("m"), house.children("m")], ["across", rows, ["c", "d"]])

    def test_side_box_bound_and_anew(self):
        self.done(("side", "", "across"), lambda house: self.assertEqual(house.side(""), "across"))
        self.done(("side", "o", "down"), lambda house: self.assertEqual(house.side("o"), "down"))
        for size in ((1, 1), (1000, 1000), (30, 20)):
            self.done(("box",) + size, lambda house: self.assertEqual(house.size(), size))
        for bound in ((1, 1), (10 ** 30 - 1, 1), (10 ** 30 - 1, 10 ** 30 - 2), (2, 1)):
            self.done(("bound", bound), lambda house: self.assertEqual(house.bound(), bound))
        for nest in ("", "n", "o"):
            self.done(("anew", nest), lambda house: self.assertEqual(house.names(), list("abcdemnop")))

    def test_by_names(self):
        house = House(30, 20)
        house.nest(at=0, nest="", name="n")
        house.put(weight=5, at=0, nest="n", name="a")
        house.weigh(weight=6, name="a")
        house.move(at=1, nest="", name="a")
        house.turn(side="across", nest="n")
        house.resize(high=5, wide=4)
        house.bind(bound=(3, 2))
        house.anew(nest="")
        house.do(deed=("put", "b", "n", 0, 1))
        house.together(deeds=[("put", "c", "n", 0, 1)])
        house.take(name="b")
        self.assertEqual([house.names(), house.weight("a"), house.place("a"), house.side("n"), house.size(),
                          house.bound(), house.steps()],
                         [["a", "c", "n"], 6, ("", 1), "across", (4, 5), (3, 2), (11, 0)])


class BadDeeds(Deeds):
    def test_no_deed(self):
        things = OTHER_KINDS + [
            ("house", "a"), ("turn", "", "down"), ("resize", 3, 4), ("bind", (2, 1)), ("undo",), ("redo",), ("do",),
            ("Put", "z", "", 0, 1), ("put ", "z", "", 0, 1), ("",), ("", "a"), (None, "a"), (1, "a"), (True,),
            (("take",), "a"), (["take"], "a"), ({}, "a"), (b"take", "a"), (Prickly(), "a"), (Prickly(),),
            "take", "take a", ["take", "a"], [("take", "a")], (("take", "a"),), {"take": "a"}]
        for thing in things:
            for way in (by_do, in_a_row, in_a_tuple, behind_others):
                with self.subTest(f"{way.__name__} {named(thing)}"):
                    house = some_house()
                    with self.assertRaises(BadDeed) as caught:
                        way(house, thing)
                    self.assertEqual(vars(caught.exception), {"called": "BadDeed"})
                    self.assertTrue(house == some_house())
                    self.assertEqual(house.steps(), (1, 0))

    def test_as_a_list_and_with_more_or_fewer(self):
        for deed in GOOD:
            for way in (by_do, in_a_row, behind_others):
                for wrong in (list(deed), deed + (1,), deed + ("",), deed + (None,), deed + deed[1:], deed[:-1],
                              deed[1:], (deed[0],) + deed, ()):
                    with self.subTest(f"{way.__name__} {wrong}"):
                        house = some_house()
                        self.assertRaises(BadDeed, way, house, wrong)
                        self.assertTrue(house == some_house())

    def test_all_other_refusals_come_later(self):
        self.assertRaises(BadDeed, House(3, 4).do, ("put", None, None, None))
        self.assertRaises(BadDeed, House(3, 4).do, ("take",))
        self.assertRaises(BadDeed, House(3, 4).do, ("box", 0))

    def test_no_row_of_deeds(self):
        for thing in (None, 0, "", "take", {}, {("take", "a"): 1}, House(3, 4), ("take", "a"), ["take", "a"]):
            house = some_house()
            self.assertRaises(BadDeed, house.together, thing)
            self.assertTrue(house == some_house())


class Refused(Deeds):
    def test_all_is_as_it_was(self):
        for deed in (("put", "z", "n", 0, 0), ("nest", "a", "", 0), ("take", "n"), ("move", "n", "m", 0),
                     ("weigh", "a", 10001), ("side", "", "up"), ("box", 5, 0), ("bound", (1, 2)), ("anew", "a")):
            for way in WAYS + (behind_others,):
                house = self.SOME.twin()
                told = copy.deepcopy(asked(house))
                self.assertRaises((CutError, Missing), way, house, deed)
                self.assertEqual(asked(house), told)
                house.redo()
                self.assertRaises(NoName, house.weight, "b")
                self.assertEqual(house.steps(), (2, 0))
                house.undo()
                house.undo()
                self.assertTrue(house == House(30, 20))

    def test_bad_name(self):
        for thing in BAD_NAMES:
            self.refused(BadName, ("put", thing, "", 0, 1))
            self.refused(BadName, ("nest", thing, "", 0))
        self.refused(BadName, ("put", "A", "zz", -1, 0))
        self.refused(BadName, ("nest", "A", "zz", -1))

    def test_taken(self):
        for name in "abcdemnop":
            self.refused(Taken, ("put", name, "", 0, 1), name)
            self.refused(Taken, ("nest", name, "", 0), name)
            self.refused(Taken, ("put", name, "zz", -1, 0), name)
            self.refused(Taken, ("nest", name, "zz", -1), name)

    def test_no_nest(self):
        for thing in NO_NAMES + ["a", "c", "zz"]:
            for at in (0, -1, None):
                self.refused(NoNest, ("put", "z", thing, at, 1), thing)
                self.refused(NoNest, ("nest", "z", thing, at), thing)
                self.refused(NoNest, ("move", "a", thing, at), thing)
            self.refused(NoNest, ("side", thing, "across"), thing)
            self.refused(NoNest, ("anew", thing), thing)
        self.refused(NoNest, ("put", "z", "zz", -1, 0), "zz")
        self.refused(NoNest, ("put", "z", "z", 0, 1), "z")
        self.refused(NoNest, ("side", "zz", "up"), "zz")
        self.refused(NoNest, ("side", "a", None), "a")

    def test_bad_place(self):
        for thing in BAD_PLACES:
            self.refused(BadPlace, ("put", "z", "", thing, 1))
            self.refused(BadPlace, ("put", "z", "", thing, 0))
            self.refused(BadPlace, ("nest", "z", "", thing))
            self.refused(BadPlace, ("move", "a", "", thing))
            self.refused(BadPlace, ("move", "a", "n", thing))
        self.refused(BadPlace, ("move", "a", "", 4))
        self.refused(BadPlace, ("move", "n", "", 4))
        self.refused(BadPlace, ("move", "a", "n", 4))
        self.refused(BadPlace, ("move", "p", "o", 1))
        for nest, many in (("", 4), ("n", 3), ("m", 2), ("o", 0)):
            self.refused(BadPlace, ("put", "z", nest, many + 1, 1))
            self.refused(BadPlace, ("nest", "z", nest, many + 1))

    def test_bad_weight(self):
        for thing in BAD_LOADS:
            self.refused(BadWeight, ("put", "z", "", 0, thing))
            self.refused(BadWeight, ("weigh", "a", thing))

    def test_no_name(self):
        for thing in NO_NAMES + [""]:
            self.refused(NoName, ("take", thing), thing)
            self.refused(NoName, ("weigh", thing, 5), thing)
            self.refused(NoName, ("weigh", thing, 0), thing)
            for nest in ("", "zz", thing):
                for at in (0, -1, None):
                    self.refused(NoName, ("move", thing, nest, at), thing)
        for nest in "mnop":
            self.refused(NoName, ("weigh", nest, 5), nest)
            self.refused(NoName, ("weigh", nest, None), nest)

    def test_not_empty(self):
        for nest in "mn":
            self.refused(NotEmpty, ("take", nest), nest)
        house = some_house()
        house.move("p", "o", 0)
        self.refused(NotEmpty, ("take", "o"), "o", house)

    def test_within(self):
        for nest in "mnop":
            for at in (0, -1, None, 99):
                self.refused(Within, ("move", nest, nest, at), nest)
        for nest in "mo":
            for at in (0, -1, None):
                self.refused(Within, ("move", "n", nest, at), "n")

    def test_bad_side(self):
        for thing in BAD_SIDES:
            self.refused(BadSide, ("side", "", thing))
            self.refused(BadSide, ("side", "o", thing))

    def test_bad_box(self):
        for thing in BAD_LENGTHS:
            for wide, high in ((thing, 20), (30, thing), (thing, thing)):
                self.refused(BadBox, ("box", wide, high))

    def test_bad_bound(self):
        for thing in BAD_BOUNDS + [(10 ** 30, 1), (10 ** 30, 10 ** 30 - 1), (10 ** 30 + 1, 10 ** 30), (GREAT, 1)]:
            self.refused(BadBound, ("bound", thing))


def full_of_names():
    """Forty names: twelve things in each of three nests, and a fourth nest."""
    house = House(30, 20)
    deeds = [("nest", nest, "", 0) for nest in ("na", "nb", "nc", "nd")]
    deeds += [("put", nest + letter, nest, 0, 1) for nest in ("na", "nb", "nc") for letter in "abcdefghijkl"]
    house.together(deeds)
    return house


def deep():
    """Nests one in another, a to d, with four around d, and as many in e without a thing, but only f to h."""
    house = House(30, 20)
    house.together([("nest", "a", "", 0), ("nest", "b", "a", 0), ("nest", "c", "b", 0), ("nest", "d", "c", 0),
                    ("nest", "f", "", 1), ("nest", "g", "f", 0), ("nest", "h", "g", 0)])
    return house


class TooMany(Deeds):
    def test_names(self):
        house = full_of_names()
        self.assertEqual(len(house.names()), 40)
        self.refused(Full, ("put", "z", "", 0, 1), "names", house)
        self.refused(Full, ("nest", "z", "", 0), "names", house)
        self.refused(Full, ("put", "z", "na", 0, 1), "names", house)
        self.refused(Full, ("nest", "z", "na", 0), "names", house)
        house.take("naa")
        house.put("z", "nd", 0, 1)
        self.refused(Full, ("nest", "y", "", 0), "names", house)
        house.take("z")
        house.nest("y", "nd", 0)
        self.assertEqual(len(house.names()), 40)
        self.assertEqual(house.move("y", "", 0), (0, []))

    def test_the_fortieth_is_put(self):
        house = full_of_names()
        house.take("nd")
        for deed in (("put", "z", "", 0, 1), ("nest", "z", "", 0)):
            twin = house.twin()
            twin.do(deed)
            self.assertEqual(len(twin.names()), 40)
            self.refused(Full, ("put", "y", "", 0, 1), "names", twin)

    def test_names_ahead_of_deep(self):
        house = full_of_names()
        house.together([("take", "na" + letter) for letter in "abc"])
        house.together([("nest", "x", "nd", 0), ("nest", "y", "x", 0), ("nest", "w", "y", 0)])
        self.refused(Full, ("put", "z", "w", 0, 1), "names", house)
        self.refused(Full, ("nest", "z", "w", 0), "names", house)
        house.take("nba")
        self.refused(Full, ("put", "z", "w", 0, 1), "deep", house)
        self.refused(Full, ("nest", "z", "w", 0), "deep", house)

    def test_children(self):
        house = House(30, 20)
        house.together([("put", letter, "", 0, 1) for letter in "abcdefghijk"] + [("nest", "n", "", 0)])
        self.assertEqual(len(house.children("")), 12)
        house.put("m", "n", 0, 1)
        self.refused(Full, ("put", "z", "", 0, 1), "children", house)
        self.refused(Full, ("nest", "z", "", 12), "children", house)
        self.refused(Full, ("move", "m", "", 0), "children", house)
        self.refused(Full, ("move", "m", "", 12), "children", house)
        self.refused(BadPlace, ("move", "m", "", 13), house=house)
        house.take("a")
        self.assertEqual(len(house.children("")), 11)
        twin = house.twin()
        twin.move("m", "", 11)
        self.assertEqual(twin.children("")[-1], "m")
        house.put("z", "", 11, 1)
        self.assertEqual(len(house.children("")), 12)

    def test_a_full_nest_has_room_for_its_own(self):
        house = full_of_names()
        for at in range(12):
            twin = house.twin()
            twin.move("nal", "na", at)
            self.assertEqual(twin.place("nal"), ("na", at))
        self.refused(BadPlace, ("move", "nal", "na", 12), house=house)
        self.refused(Full, ("move", "nba", "na", 0), "children", house)
        self.refused(Full, ("move", "nd", "na", 0), "children", house)

    def test_deep(self):
        house = deep()
        self.refused(Full, ("put", "z", "d", 0, 1), "deep", house)
        self.refused(Full, ("nest", "z", "d", 0), "deep", house)
        house.put("z", "c", 0, 1)
        house.nest("y", "c", 0)
        house.put("x", "h", 0, 1)
        house.nest("w", "h", 0)
        self.refused(Full, ("put", "v", "w", 0, 1), "deep", house)

    def test_a_nest_moved_with_nests_within(self):
        house = deep()
        self.refused(Full, ("move", "h", "d", 0), "deep", house)
        self.refused(Full, ("move", "g", "c", 0), "deep", house)
        self.refused(Full, ("move", "f", "b", 0), "deep", house)
        self.refused(Full, ("move", "a", "f", 0), "deep", house)
        for deed in (("move", "h", "c", 0), ("move", "g", "b", 0), ("move", "f", "a", 0), ("move", "b", "f", 0),
                     ("move", "c", "g", 0), ("move", "d", "h", 0)):
            twin = house.twin()
            twin.do(deed)
            self.assertEqual(twin.place(deed[1]), (deed[2], 0))
        house.put("x", "h", 0, 1)
        self.refused(Full, ("move", "h", "c", 0), "deep", house)
        self.refused(Full, ("move", "g", "b", 0), "deep", house)
        self.refused(Full, ("move", "f", "a", 0), "deep", house)
        self.refused(Full, ("move", "x", "d", 0), "deep", house)
        house.move("x", "c", 1)
        self.assertEqual(house.children("c"), ["d", "x"])
        house.move("g", "b", 0)
        house.move("d", "b", 1)
        self.assertEqual(house.children("b"), ["g", "d", "c"])

    def test_the_deepest_of_several_counts(self):
        house = House(30, 20)
        house.together([("nest", "a", "", 0), ("put", "b", "a", 0, 1), ("nest", "c", "a", 1), ("put", "d", "c", 0, 1),
                        ("put", "e", "a", 2, 1), ("nest", "f", "", 1), ("nest", "g", "f", 0), ("nest", "h", "g", 0)])
        self.refused(Full, ("move", "a", "h", 0), "deep", house)
        self.refused(Full, ("move", "a", "g", 0), "deep", house)
        house.twin().move("a", "f", 0)
        house.move("c", "g", 0)
        house.move("a", "g", 0)
        self.assertEqual(house.place("a"), ("g", 0))

    def test_children_ahead_of_deep(self):
        house = deep()
        house.together([("put", letter * 2, "c", 0, 1) for letter in "abcdefghijk"])
        self.assertEqual(len(house.children("c")), 12)
        self.refused(Full, ("move", "g", "c", 0), "children", house)
        self.refused(Full, ("move", "h", "d", 0), "deep", house)
        house.take("aa")
        self.refused(Full, ("move", "g", "c", 0), "deep", house)

    def test_bad_weight_ahead_of_full(self):
        self.refused(BadWeight, ("put", "z", "na", 0, 0), house=full_of_names())
        self.refused(BadPlace, ("put", "z", "na", 13, 0), house=full_of_names())
        self.refused(BadPlace, ("nest", "z", "na", 13), house=full_of_names())
        self.refused(Taken, ("put", "naa", "na", 13, 0), "naa", full_of_names())
        self.refused(Within, ("move", "a", "d", 0), "a", deep())


class Kinds(unittest.TestCase):
    def test_families(self):
        for refusal in (BadName, BadPlace, BadDeed, Taken, Full, NotEmpty, Within):
            self.assertTrue(issubclass(refusal, CutError))
        for refusal in (NoName, NoNest):
            self.assertTrue(issubclass(refusal, Missing))

    def test_deeds_are_not_changed(self):
        deeds = [("put", "z", "", 0, 1), ("bound", (3, 1)), ("take", "z")]
        held = copy.deepcopy(deeds)
        house = some_house()
        house.together(deeds)
        self.assertEqual(deeds, held)
        told = asked(house)
        deeds.clear()
        self.assertEqual(asked(house), told)


if __name__ == "__main__":
    unittest.main()
