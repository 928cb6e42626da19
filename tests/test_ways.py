"""Points 6 and 20: neighbours and ways in a dict from names to boxes; point 2 for these."""

import copy
import unittest
from itertools import permutations

from calmcuts.boxes import ACROSS, DOWN, box_of, split
from calmcuts.errors import Missing, NoName
from calmcuts.rows import laid
from calmcuts.slices import sliced
from calmcuts.ways import neighbours, way
from plainly import all_sizes, all_trees, all_ways, edge_in_common, fractions_of, pair
from things import Prickly, named

# Two by two with a corner in common, and one of all the width beneath them.
FIVE = dict(zip("abcde", laid(box_of(6, 6), [1, 1, 1, 1, 2], (2, 2, 1))))
NO_NAMES = ["", "z", "A", "a ", " a", "aa", "abcde", "a\n", None, True, False, 0, 1, 1.5, b"a", (), ("a",), ("a", "b"),
            {"a"}, frozenset("a"), bytearray(b"a"), range(1), object(), len, int, Prickly(), ([],), (Prickly(),)]


class Neighbours(unittest.TestCase):
    def test_plain(self):
        self.assertEqual(neighbours(FIVE, "a"), [("b", (2, 1)), ("c", (3, 1))])
        self.assertEqual(neighbours(FIVE, "b"), [("a", (2, 1)), ("d", (3, 1))])
        self.assertEqual(neighbours(FIVE, "c"), [("a", (3, 1)), ("d", (2, 1)), ("e", (3, 1))])
        self.assertEqual(neighbours(FIVE, "e"), [("c", (3, 1)), ("d", (3, 1))])

    def test_a_corner_alone(self):
        boxes = {"a": box_of(2, 2), "b": box_of(2, 2, left=2, top=2), "c": box_of(2, 2, left=-2, top=2)}
        for name in boxes:
            self.assertEqual(neighbours(boxes, name), [])

    def test_apart_and_alone(self):
        self.assertEqual(neighbours({"a": box_of(2, 2)}, "a"), [])
        self.assertEqual(neighbours({"a": box_of(2, 2), "b": box_of(2, 2, left=3)}, "a"), [])

    def test_a_part_of_an_edge(self):
        boxes = {"b": box_of(2, 2), "a": ((2, 1), (-1, 1), (1, 1), (4, 3))}
        self.assertEqual(neighbours(boxes, "b"), [("a", (1, 3))])
        self.assertEqual(neighbours(boxes, "a"), [("b", (1, 3))])

    def test_rising(self):
        boxes = dict(zip("hgfedcbz", laid(box_of(8, 5), [7] + [1] * 7, (1, 7))))
        self.assertEqual([name for name, _ in neighbours(boxes, "h")], list("bcdefgz"))
        longer = {"b": box_of(1, 1, top=1), "ab": box_of(1, 1, left=1), "a": box_of(1, 1)}
        self.assertEqual(neighbours(longer, "a"), [("ab", (1, 1)), ("b", (1, 1))])

    def test_what_is_told(self):
        found = neighbours(FIVE, "a")
        self.assertIs(type(found), list)
        self.assertTrue(all(type(told) is tuple and type(told[1]) is tuple for told in found))

    def test_all_told(self):
        for boxes in cuts():
            whole = {name: fractions_of(box) for name, box in boxes.items()}
            for name in boxes:
                told = [(other, pair(edge_in_common(whole[name], whole[other]))) for other in sorted(boxes)
                        if other != name and edge_in_common(whole[name], whole[other]) > 0]
                self.assertEqual(neighbours(boxes, name), told)


class Way(unittest.TestCase):
    def test_plain(self):
        self.assertEqual(way(FIVE, "a", "b"), ["a", "b"])
        self.assertEqual(way(FIVE, "a", "e"), ["a", "c", "e"])
        self.assertEqual(way(FIVE, "e", "b"), ["e", "d", "b"])

    def test_of_several_the_first(self):
        self.assertEqual(way(FIVE, "a", "d"), ["a", "b", "d"])
        self.assertEqual(way(FIVE, "d", "a"), ["d", "b", "a"])
        self.assertEqual(way(FIVE, "b", "c"), ["b", "a", "c"])
        self.assertEqual(way(FIVE, "c", "b"), ["c", "a", "b"])

    def test_the_first_from_its_beginning_on(self):
        # Two ways around, a-b-z-y-e and a-c-d-x-e: what is lesser near the end doesn't count.
        spots = {"a": (0, 1), "b": (0, 0), "z": (1, 0), "y": (2, 0), "e": (2, 1), "c": (0, 2), "d": (1, 2), "x": (2, 2)}
        boxes = {name: box_of(1, 1, left=left, top=top) for name, (left, top) in spots.items()}
        self.assertEqual(way(boxes, "a", "e"), ["a", "b", "z", "y", "e"])
        self.assertEqual(way(boxes, "e", "a"), ["e", "x", "d", "c", "a"])

    def test_to_itself(self):
        for name in FIVE:
            self.assertEqual(way(FIVE, name, name), [name])
        self.assertEqual(way({"a": box_of(1, 1)}, "a", "a"), ["a"])

    def test_none(self):
        boxes = {"a": box_of(1, 1), "b": box_of(1, 1, left=1), "c": box_of(1, 1, left=3), "d": box_of(1, 1, left=4),
                 "e": box_of(1, 1, left=2, top=1)}
        self.assertEqual(way(boxes, "a", "b"), ["a", "b"])
        self.assertEqual(way(boxes, "d", "c"), ["d", "c"])
        for one in "ab":
            for other in "cde":
                self.assertIsNone(way(boxes, one, other))
                self.assertIsNone(way(boxes, other, one))
        self.assertEqual(way(boxes, "e", "e"), ["e"])

    def test_all_told(self):
        for boxes in cuts():
            whole = {name: fractions_of(box) for name, box in boxes.items()}
            for one in boxes:
                for other in boxes:
                    found = way(boxes, one, other)
                    self.assertIs(type(found), list)
                    self.assertEqual(found, min(all_ways(whole, one, other), key=lambda told: (len(told), told)))

    def test_a_long_way(self):
        names = [f"n{at:02}" for at in range(40)]
        boxes = {name: box_of(1, 1, left=at) for at, name in enumerate(names)}
        self.assertEqual(way(boxes, "n00", "n39"), names)
        self.assertEqual(way(boxes, "n39", "n00"), names[::-1])


def cuts():
    """Boxes cut in several ways, under names that don't rise with their places."""
    found = [dict(zip("dbace", laid(box_of(6, 6), [1, 2, 1, 3, 1], sizes, side=side)))
             for sizes in all_sizes(5) for side in (DOWN, ACROSS)]
    found += [dict(zip("bdca", sliced(box_of(7, 5), [1, 1, 2, 1], tree))) for tree in all_trees(4)]
    first, second = split(box_of(9, 7), [2, 1])
    within = laid(first, [1, 1, 1, 1], (2, 2)) + laid(second, [1, 2], (2,))
    return found + [dict(zip("fabecd", within))]


class Refused(unittest.TestCase):
    def test_neighbours(self):
        for thing in NO_NAMES:
            with self.subTest(named(thing)):
                self.check(thing, neighbours, FIVE, thing)

    def test_way(self):
        for thing in NO_NAMES:
            with self.subTest(named(thing)):
                self.check(thing, way, FIVE, thing, "a")
                self.check(thing, way, FIVE, "a", thing)

    def test_the_first_name_first(self):
        self.check("y", way, FIVE, "y", "z")
        self.check("z", way, FIVE, "z", "y")
        self.check("z", way, FIVE, "z", "z")
        self.check("a", way, {}, "a", "b")
        self.check("a", neighbours, {}, "a")

    def check(self, thing, call, *handed):
        with self.assertRaises(NoName) as caught:
            call(*handed)
        self.assertIsInstance(caught.exception, Missing)
        self.assertEqual(caught.exception.called, "NoName")
        self.assertIs(caught.exception.name, thing)


class Handing(unittest.TestCase):
    def test_the_dict_is_not_changed(self):
        boxes = copy.deepcopy(FIVE)
        neighbours(boxes, "a")
        way(boxes, "a", "e")
        self.assertRaises(NoName, way, boxes, "a", "z")
        self.assertEqual(list(boxes.items()), list(FIVE.items()))

    def test_the_order_of_the_names_does_not_matter(self):
        for names in permutations(FIVE):
            boxes = {name: FIVE[name] for name in names}
            for one in FIVE:
                self.assertEqual(neighbours(boxes, one), neighbours(FIVE, one))
                self.assertEqual(way(boxes, "a", one), way(FIVE, "a", one))

    def test_told_lists_are_new(self):
        found, told = neighbours(FIVE, "a"), way(FIVE, "a", "d")
        found.clear()
        told.clear()
        self.assertEqual(neighbours(FIVE, "a"), [("b", (2, 1)), ("c", (3, 1))])
        self.assertEqual(way(FIVE, "a", "d"), ["a", "b", "d"])

    def test_by_names(self):
        self.assertEqual(neighbours(name="a", boxes=FIVE), neighbours(FIVE, "a"))
        self.assertEqual(way(other="e", one="a", boxes=FIVE), ["a", "c", "e"])


if __name__ == "__main__":
    unittest.main()
