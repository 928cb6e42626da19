"""Points 16, 15, 19 and 20 as a house tells them: how it begins, what it answers, equal houses; point 2 for these."""

import copy
import unittest
from unittest import mock

from calmcuts.boxes import ACROSS, DOWN
from calmcuts.errors import BadBound, BadBox, BadSide, BadSizes, Bare, Missing, NoName, NoNest
from calmcuts.house import BOUND, House
from things import BAD_BOUNDS, BAD_SIDES, GREAT, OTHER_KINDS, Prickly, named

# What may stand where a name is asked for, and is none; a list or dict is not handed in there.
NO_NAMES = [None, True, False, 0, 1, -1, 2.5, b"", b"a", (), ("a",), ("",), {"a"}, frozenset("a"), bytearray(b"a"),
            range(2), object(), len, int, Prickly(), ([],), (Prickly(),), " ", "-", "a ", " a", "a\n", "A", "aa", "zzz",
            "abcdefghi", "1"]
BAD_LENGTHS = [thing for thing in OTHER_KINDS if type(thing) is not int or thing < 1] + [
    0, -1, -5, 1001, 1000000, GREAT, -GREAT, 1.0, "1", "30", (1,), [1], {1}, {1: 1}]


def some_house():
    """Things a and e, and a nest n of b, of a nest m of c and d, and of a nest o of none; and a nest p of none."""
    house = House(30, 20)
    house.together([("put", "a", "", 0, 6), ("nest", "n", "", 1), ("put", "e", "", 2, 3), ("put", "b", "n", 0, 4),
                    ("nest", "m", "n", 1), ("nest", "o", "n", 2), ("put", "c", "m", 0, 1), ("put", "d", "m", 1, 2),
                    ("nest", "p", "", 0), ("side", "m", "down")])
    return house


def asked(house):
    """All that a house tells."""
    names = house.names()
    nests = [name for name in names if house.is_nest(name)] + [""]
    boxes = house.boxes()
    return [house.size(), house.bound(), names, nests, house.worst(), house.steps(), repr(house), len(house),
            list(boxes.items()), house.squares(7, 5), house.squares(40, 40),
            [(house.children(nest), house.rows(nest), house.side(nest)) for nest in nests],
            [house.weight(name) for name in names + [""]], [house.place(name) for name in names],
            [house.box(name) for name in names + [""] if house.weight(name) > 0],
            [house.neighbours(name) for name in boxes], [house.way(one, other) for one in boxes for other in boxes],
            [house.under(box[0], box[1]) for box in boxes.values()]]


class Begun(unittest.TestCase):
    def test_all_that_it_tells(self):
        for house, size, bound, side in (
                (House(30, 20), (30, 20), (2, 1), "down"), (House(1, 1000), (1, 1000), (2, 1), DOWN),
                (House(1000, 1, bound=(7, 3), side=ACROSS), (1000, 1), (7, 3), "across"),
                (House(side="across", bound=(1, 1), high=2, wide=5), (5, 2), (1, 1), "across"),
                (House(5, 2, bound=(10 ** 30 - 1, 10 ** 30 - 2)), (5, 2), (10 ** 30 - 1, 10 ** 30 - 2), "down"),
                (House(5, 2, bound=(10 ** 30 - 1, 1)), (5, 2), (10 ** 30 - 1, 1), "down")):
            self.assertEqual(house.size(), size)
            self.assertIs(type(house.size()), tuple)
            self.assertEqual(house.bound(), bound)
            self.assertEqual(house.side(""), side)
            self.check_empty(house)
        self.assertEqual(BOUND, (2, 1))
        self.assertEqual(repr(House(30, 20)), "House(30 x 20, 0 things)")

    def check_empty(self, house):
        self.assertEqual([house.names(), house.children(""), house.rows("")], [[], [], []])
        self.assertIs(house.is_nest(""), True)
        self.assertEqual(house.weight(""), 0)
        self.assertEqual(house.boxes(), {})
        self.assertEqual(house.under((0, 1), (0, 1)), "")
        self.assertIsNone(house.worst())
        self.assertEqual(house.squares(1, 40), [])
        self.assertEqual(house.steps(), (0, 0))
        self.assertEqual(len(house), 0)
        self.check_refused(Bare, "", house.box, "")
        self.check_refused(NoName, "", house.place, "")
        self.check_refused(NoName, "", house.neighbours, "")

    def check_refused(self, refusal, name, call, *handed):
        with self.assertRaises(refusal) as caught:
            call(*handed)
        self.assertEqual(vars(caught.exception), {"called": refusal.__name__, "name": name})

    def test_bad_box(self):
        for thing in BAD_LENGTHS:
            with self.subTest(named(thing)):
                for wide, high in ((thing, 20), (30, thing), (thing, thing)):
                    self.assertRaises(BadBox, House, wide, high)
                    self.assertRaises(BadBox, House, wide, high, bound=(1, 2), side="up")

    def test_bad_bound(self):
        for thing in BAD_BOUNDS + [(10 ** 30, 1), (10 ** 30, 10 ** 30 - 1), (10 ** 30 + 1, 10 ** 30), (GREAT, 1)]:
            with self.subTest(named(thing)):
                self.assertRaises(BadBound, House, 30, 20, bound=thing)
                self.assertRaises(BadBound, House, 30, 20, bound=thing, side="up")

    def test_bad_side(self):
        for thing in BAD_SIDES:
            with self.subTest(named(thing)):
                self.assertRaises(BadSide, House, 30, 20, side=thing)

    def test_houses_apart(self):
        one, other = House(30, 20), House(30, 20)
        one.put("a", "", 0, 1)
        self.assertEqual([other.names(), other.steps(), one.names()], [[], (0, 0), ["a"]])


class Asked(unittest.TestCase):
    def setUp(self):
        self.house = some_house()

    def test_names_and_kinds(self):
        self.assertEqual(self.house.names(), list("abcdemnop"))
        for name in "mnop":
            self.assertIs(self.house.is_nest(name), True)
        for name in "abcde":
            self.assertIs(self.house.is_nest(name), False)
        self.assertEqual(len(self.house), 5)
        self.assertEqual(repr(self.house), "House(30 x 20, 5 things)")

    def test_names_rise_as_texts(self):
        house = House(5, 5)
        for name in ("b", "ab", "a", "ba", "aa", "zzzzzzzz"):
            house.put(name, "", 0, 1)
        house.nest("az", "", 0)
        self.assertEqual(house.names(), ["a", "aa", "ab", "az", "b", "ba", "zzzzzzzz"])
        self.assertEqual(list(house.boxes()), ["a", "aa", "ab", "b", "ba", "zzzzzzzz"])

    def test_children_places_and_sides(self):
        self.assertEqual(self.house.children(""), ["p", "a", "n", "e"])
        self.assertEqual(self.house.children("n"), ["b", "m", "o"])
        self.assertEqual(self.house.children("m"), ["c", "d"])
        self.assertEqual([self.house.children("o"), self.house.children("p")], [[], []])
        self.assertEqual([self.house.place(name) for name in "pane"], [("", 0), ("", 1), ("", 2), ("", 3)])
        self.assertEqual([self.house.place(name) for name in "bmo"], [("n", 0), ("n", 1), ("n", 2)])
        self.assertEqual(self.house.place("d"), ("m", 1))
        self.assertEqual([self.house.side(nest) for nest in ("", "n", "m", "o", "p")], ["down"] * 5)

    def test_weights(self):
        self.assertEqual([self.house.weight(name) for name in "abcde"], [6, 4, 1, 2, 3])
        self.assertEqual([self.house.weight(name) for name in ("m", "n", "o", "p", "")], [3, 7, 0, 0, 16])

    def test_boxes_by_shares(self):
        boxes = self.house.boxes()
        self.assertEqual(list(boxes), list("abcde"))
        for name, box in boxes.items():
            wide, high = box[2], box[3]
            self.assertEqual(wide[0] * high[0] * 16, self.house.weight(name) * 30 * 20 * wide[1] * high[1])
            self.assertEqual(self.house.box(name), box)
        self.assertEqual(self.house.box(""), ((0, 1), (0, 1), (30, 1), (20, 1)))
        left, top, wide, high = self.house.box("n")
        self.assertEqual(wide[0] * high[0] * 16, 7 * 30 * 20 * wide[1] * high[1])

    def test_a_plain_box(self):
        house = House(4, 2)
        house.put("a", "", 0, 1)
        house.nest("n", "", 1)
        house.put("b", "n", 0, 1)
        self.assertEqual(house.rows(""), [["a", "n"]])
        self.assertEqual(house.box("a"), ((0, 1), (0, 1), (2, 1), (2, 1)))
        self.assertEqual(house.box("n"), ((2, 1), (0, 1), (2, 1), (2, 1)))
        self.assertEqual(house.box("b"), ((2, 1), (0, 1), (2, 1), (2, 1)))
        self.assertEqual(house.worst(), (1, 1))
        house.resize(4, 4)
        self.assertEqual(house.worst(), (2, 1))
        self.assertEqual(house.squares(2, 2), [["a", "b"], ["a", "b"]])
        house.resize(4, 8)
        self.assertEqual(house.worst(), (1, 1))
        self.assertEqual(house.squares(2, 2), [["a", "a"], ["b", "b"]])

    def test_rows_leave_out_what_has_no_weight(self):
        for nest in ("", "n", "m"):
            laid = [name for row in self.house.rows(nest) for name in row]
            self.assertEqual(laid, [name for name in self.house.children(nest) if self.house.weight(name) > 0])
        self.assertEqual([self.house.rows("o"), self.house.rows("p")], [[], []])

    def test_worst_of_one(self):
        house = House(4, 3)
        house.put("a", "", 0, 1)
        self.assertEqual(house.worst(), (4, 3))
        self.assertEqual(repr(house), "House(4 x 3, 1 things)")

    def test_worst_is_of_things_only(self):
        house = House(1000, 1, bound=(1000, 1))
        house.nest("n", "", 0)
        house.together([("put", name, "n", at, 1) for at, name in enumerate("abcdefghij")])
        house.turn("n", "down")
        house.anew("n")
        self.assertEqual(house.rows("n"), [list("abcdefghij")])
        self.assertEqual(house.worst(), (100, 1))

    def test_under(self):
        house = House(4, 2)
        house.put("a", "", 0, 1)
        house.nest("n", "", 1)
        house.put("b", "n", 0, 1)
        for point, name in (((0, 0), "a"), ((1, 1), "a"), ((2, 0), "b"), ((3, 1), "b"), ((4, 0), ""), ((0, 2), ""),
                            ((4, 2), ""), ((-1, 0), ""), ((0, -1), ""), ((100, 1), "")):
            self.assertEqual(house.under((point[0], 1), (point[1], 1)), name)
        self.assertEqual(house.under((2 * 10 ** 150 - 1, 10 ** 150), (199, 100)), "a")
        self.assertEqual(house.under((399, 100), (199, 100)), "b")
        self.assertEqual(house.under((-1, 10 ** 150), (0, 1)), "")
        self.assertEqual(house.under(y=(0, 1), x=(2, 1)), "b")

    def test_neighbours_and_ways_are_of_things(self):
        house = House(4, 2, bound=(3, 1))
        house.put("a", "", 0, 1)
        house.nest("n", "", 1)
        house.together([("put", "c", "n", 0, 1), ("put", "b", "n", 1, 1)])
        house.turn("n", "across")
        self.assertEqual(house.rows("n"), [["c", "b"]])
        self.assertEqual(house.boxes()["c"], ((4, 3), (0, 1), (8, 3), (1, 1)))
        self.assertEqual(house.neighbours("a"), [("b", (1, 1)), ("c", (1, 1))])
        self.assertEqual(house.neighbours("b"), [("a", (1, 1)), ("c", (8, 3))])
        self.assertEqual(house.way("b", "c"), ["b", "c"])
        self.assertEqual(house.way("b", "b"), ["b"])
        self.assertEqual(house.way(other="a", one="c"), ["c", "a"])

    def test_of_several_ways_the_first(self):
        house = House(4, 4, bound=(1, 1))
        house.together([("put", name, "", at, 1) for at, name in enumerate("abcd")])
        self.assertEqual(house.rows(""), [["a", "b"], ["c", "d"]])
        self.assertEqual(house.way("a", "d"), ["a", "b", "d"])
        self.assertEqual(house.way("d", "a"), ["d", "b", "a"])
        self.assertEqual(house.neighbours("a"), [("b", (2, 1)), ("c", (2, 1))])

    def test_squares(self):
        house = House(4, 4, bound=(1, 1))
        house.together([("put", name, "", at, 1) for at, name in enumerate("abcd")])
        self.assertEqual(house.squares(2, 2), [["a", "b"], ["c", "d"]])
        self.assertEqual(house.squares(1, 1), [["d"]])
        self.assertEqual(house.squares(3, 1), [["c", "d", "d"]])
        self.assertEqual(house.squares(rows=3, columns=1), [["b"], ["d"], ["d"]])
        self.assertEqual(self.house.squares(1, 1)[0][0] in "abcde", True)

    def test_bad_sizes(self):
        for house in (self.house, House(30, 20)):
            for thing in OTHER_KINDS[:2] + [0, 41, 1001, -1, True, False, None, 1.0, "1", [1], (1,), GREAT, Prickly()]:
                self.assertRaises(BadSizes, house.squares, thing, 1)
                self.assertRaises(BadSizes, house.squares, 1, thing)
            for many in (1, 40):
                house.squares(many, many)

    def test_no_name(self):
        for call in (self.house.is_nest, self.house.weight, self.house.place, self.house.box, self.house.neighbours):
            for thing in NO_NAMES:
                with self.subTest(f"{call.__name__} {named(thing)}"):
                    self.check_refused(NoName, thing, call, thing)
        for thing in NO_NAMES + ["", "n", "m", "o", "p"]:
            with self.subTest(named(thing)):
                self.check_refused(NoName, thing, self.house.way, thing, "a")
                self.check_refused(NoName, thing, self.house.way, "a", thing)
                self.check_refused(NoName, thing, self.house.way, thing, "zz")
        self.check_refused(NoName, "", self.house.place, "")
        for name in ("", "n", "m", "o", "p"):
            self.check_refused(NoName, name, self.house.neighbours, name)

    def test_no_nest(self):
        for call in (self.house.children, self.house.rows, self.house.side):
            for thing in NO_NAMES + list("abcde"):
                with self.subTest(f"{call.__name__} {named(thing)}"):
                    self.check_refused(NoNest, thing, call, thing)

    def test_bare(self):
        for name in "op":
            self.check_refused(Bare, name, self.house.box, name)
        self.house.together([("take", name) for name in "abcde"])
        for name in ("", "m", "n", "o", "p"):
            self.check_refused(Bare, name, self.house.box, name)
        self.assertEqual([self.house.boxes(), self.house.worst(), self.house.squares(3, 3)], [{}, None, []])

    def check_refused(self, refusal, name, call, *handed):
        with self.assertRaises(refusal) as caught:
            call(*handed)
        self.assertIsInstance(caught.exception, Missing)
        self.assertEqual(caught.exception.called, refusal.__name__)
        self.assertIs(caught.exception.name, name)

    def test_asking_changes_nothing(self):
        told = copy.deepcopy(asked(self.house))
        self.assertEqual(asked(self.house), told)
        for call in (self.house.box, self.house.place, self.house.children, self.house.neighbours):
            self.assertRaises(Missing, call, "zz")
        self.assertRaises(BadSizes, self.house.squares, 0, 0)
        self.assertEqual(asked(self.house), told)
        self.assertEqual(self.house, some_house())

    def test_what_is_told_is_new(self):
        told = copy.deepcopy(asked(self.house))
        for found in (self.house.names(), self.house.children(""), self.house.rows(""), self.house.rows("n"),
                      self.house.boxes(), self.house.neighbours("a"), self.house.way("a", "d"),
                      self.house.squares(3, 3)):
            self.assertTrue(found)
            if type(found) is list:
                for within in found:
                    if type(within) is list:
                        within.append("changed")
                        within[0] = "changed"
                found.append("changed")
                found.reverse()
            else:
                found.clear()
            self.assertEqual(asked(self.house), told)
        self.assertEqual(self.house, some_house())

    def test_by_names(self):
        house = self.house
        self.assertEqual([house.is_nest(name="n"), house.weight(name="n"), house.place(name="n")], [True, 7, ("", 2)])
        self.assertEqual(house.box(name="n"), house.box("n"))
        self.assertEqual(house.children(nest="m"), ["c", "d"])
        self.assertEqual([house.rows(nest="m"), house.side(nest="m")], [house.rows("m"), "down"])
        self.assertEqual(house.neighbours(name="a"), house.neighbours("a"))


class Equal(unittest.TestCase):
    def test_equal(self):
        self.assertTrue(some_house() == some_house())
        self.assertFalse(some_house() != some_house())
        self.assertTrue(House(3, 4) == House(3, 4, bound=(2, 1), side="down"))
        house = some_house()
        self.assertTrue(house == house)

    def test_steps_do_not_matter(self):
        one, other = some_house(), some_house()
        other.weigh("a", 7)
        other.undo()
        self.assertNotEqual(one.steps(), other.steps())
        self.assertTrue(one == other)
        one.put("z", "", 0, 1)
        one.take("z")
        one.anew("")
        other.anew("")
        self.assertTrue(one == other)

    def test_the_way_there_does_not_matter(self):
        one, other = House(4, 2), House(4, 2)
        one.together([("put", "a", "", 0, 1), ("put", "b", "", 1, 1)])
        other.together([("put", "b", "", 0, 1), ("put", "a", "", 0, 1)])
        self.assertEqual(one.rows(""), other.rows(""))
        self.assertTrue(one == other)

    def test_each_difference(self):
        deeds = [("box", 30, 21), ("box", 31, 20), ("bound", (3, 1)), ("put", "z", "o", 0, 1), ("nest", "z", "o", 0),
                 ("weigh", "a", 7), ("move", "p", "", 1), ("move", "p", "o", 0), ("move", "o", "n", 0),
                 ("side", "o", "across"), ("side", "p", "across")]
        for deed in deeds:
            one, other = some_house(), some_house()
            other.do(deed)
            self.assertTrue(one != other, deed)
            self.assertFalse(one == other, deed)
            one.do(deed)
            self.assertTrue(one == other, deed)

    def test_another_name(self):
        one, other = House(4, 4), House(4, 4)
        one.put("a", "", 0, 1)
        other.put("b", "", 0, 1)
        self.assertFalse(one == other)
        third, fourth = House(4, 4), House(4, 4)
        third.nest("a", "", 0)
        fourth.nest("b", "", 0)
        self.assertFalse(third == fourth)
        self.assertFalse(one == third)

    def test_weights_alone(self):
        one, other = House(4, 4), House(4, 4)
        one.put("a", "", 0, 1)
        other.put("a", "", 0, 2)
        self.assertEqual(one.boxes(), other.boxes())
        self.assertFalse(one == other)

    def test_rows_alone(self):
        one, other = House(6, 6, bound=(3, 1)), House(6, 6, bound=(3, 1))
        one.together([("put", name, "", at, 1) for at, name in enumerate("abc")])
        other.together([("put", name, "", at, 1) for at, name in enumerate("abc")])
        self.assertTrue(one == other)
        other.turn("", DOWN)
        self.assertNotEqual(one.rows(""), other.rows(""))
        self.assertFalse(one == other)

    def test_nothing_else(self):
        house = some_house()
        for thing in [None, 0, 5, "House(30 x 20, 5 things)", [], house.boxes(), House, object(), (30, 20), Prickly()]:
            self.assertIs(house == thing, False)
            self.assertIs(house != thing, True)
        self.assertIs(house == mock.ANY, False)
        self.assertIs(None == house, False)


if __name__ == "__main__":
    unittest.main()
