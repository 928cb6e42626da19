"""Point 15: boxes drawn on columns by rows of squares; point 2 for these."""

import copy
import unittest
from fractions import Fraction
from itertools import product

from calmcuts.boxes import ACROSS, DOWN, box_of, holds, split
from calmcuts.errors import BadBox, BadSizes
from calmcuts.rows import laid
from calmcuts.slices import sliced
from calmcuts.squares import drawn
from plainly import all_drawn, all_sizes, all_trees, fractions_of
from things import GREAT, OTHER_KINDS, named

BAD_NUMBERS = OTHER_KINDS + [-5, GREAT, -GREAT, 1.0, "1", b"1", (1,), [1], (1, 1), {1}, {1: 1}, range(1, 2)]
BAD_LENGTHS = [thing for thing in BAD_NUMBERS if type(thing) is not int or not 1 <= thing <= 1000] + [1001, 1000.0]
BAD_COUNTS = [thing for thing in BAD_NUMBERS if type(thing) is not int or not 1 <= thing <= 40] + [
    41, 1000, 1001, 40.0]


def halved(wide, high, side):
    return dict(zip("ab", split(box_of(wide, high), [1, 1], side=side)))


class Drawn(unittest.TestCase):
    def test_plain(self):
        boxes = dict(zip("abc", laid(box_of(6, 4), [1, 1, 2], (2, 1))))
        self.assertEqual(drawn(boxes, 6, 4, 6, 4), [["a"] * 3 + ["b"] * 3] * 2 + [["c"] * 6] * 2)
        self.assertEqual(drawn(boxes, 6, 4, 2, 2), [["a", "b"], ["c", "c"]])
        self.assertEqual(drawn(boxes, 6, 4, 4, 2), [["a", "a", "b", "b"], ["c", "c", "c", "c"]])
        self.assertEqual(drawn(boxes, 6, 4, 2, 6), [["a", "b"]] * 3 + [["c", "c"]] * 3)

    def test_one_box(self):
        for wide, high in ((1, 1), (7, 3), (1000, 1), (1, 1000), (1000, 1000)):
            for columns, rows in ((1, 1), (40, 40), (1, 40), (40, 1), (3, 7)):
                self.assertEqual(drawn({"a": box_of(wide, high)}, wide, high, columns, rows), [["a"] * columns] * rows)

    def test_an_edge_just_between_two_lines(self):
        for wide in (1, 2, 3, 1000):
            self.assertEqual(drawn(halved(wide, 5, ACROSS), wide, 5, 1, 1), [["b"]])
            self.assertEqual(drawn(halved(wide, 5, ACROSS), wide, 5, 3, 1), [["a", "b", "b"]])
            self.assertEqual(drawn(halved(wide, 5, ACROSS), wide, 5, 5, 2), [["a"] * 2 + ["b"] * 3] * 2)
            self.assertEqual(drawn(halved(wide, 5, ACROSS), wide, 5, 39, 1), [["a"] * 19 + ["b"] * 20])
            self.assertEqual(drawn(halved(5, wide, DOWN), 5, wide, 1, 1), [["b"]])
            self.assertEqual(drawn(halved(5, wide, DOWN), 5, wide, 1, 3), [["a"], ["b"], ["b"]])
            self.assertEqual(drawn(halved(5, wide, DOWN), 5, wide, 2, 5), [["a", "a"]] * 2 + [["b", "b"]] * 3)
            self.assertEqual(drawn(halved(5, wide, DOWN), 5, wide, 1, 39), [["a"]] * 19 + [["b"]] * 20)

    def test_an_edge_a_little_beside_the_middle(self):
        for more, rows in ((-1, [["b"]]), (0, [["b"]]), (1, [["a"]])):
            weights = [200000 + more, 200000 - more]
            boxes = dict(zip("ab", split(box_of(1, 7), weights, side=ACROSS)))
            self.assertEqual(drawn(boxes, 1, 7, 1, 1), rows)
            boxes = dict(zip("ab", split(box_of(7, 1), weights)))
            self.assertEqual(drawn(boxes, 7, 1, 1, 1), rows)

    def test_things_without_squares(self):
        boxes = dict(zip("abc", split(box_of(10, 1), [9, 1, 10], side=ACROSS)))
        self.assertEqual(drawn(boxes, 10, 1, 2, 1), [["a", "c"]])
        self.assertEqual(drawn(boxes, 10, 1, 20, 1), [["a"] * 9 + ["b"] + ["c"] * 10])
        boxes = dict(zip("abcdefghijkl", split(box_of(3, 1000), [1] * 12)))
        self.assertEqual(drawn(boxes, 3, 1000, 1, 1), [["g"]])
        self.assertEqual(drawn(boxes, 3, 1000, 2, 4), [["b"] * 2, ["e"] * 2, ["h"] * 2, ["k"] * 2])

    def test_by_the_word(self):
        for wide, high in ((6, 4), (5, 5), (1000, 1), (7, 1000)):
            for weights in ([1, 2, 3], [5, 1, 1, 7]):
                for sizes in all_sizes(len(weights)):
                    for side in (DOWN, ACROSS):
                        boxes = laid(box_of(wide, high), weights, sizes, side=side)
                        self.check(dict(zip("abcd", boxes)), wide, high, ((1, 1), (2, 3), (7, 5), (4, 12), (12, 4)))

    def test_slices_by_the_word(self):
        for tree in all_trees(4)[::3]:
            boxes = dict(zip("dbca", sliced(box_of(9, 7), [1, 1, 3, 2], tree)))
            self.check(boxes, 9, 7, ((1, 1), (7, 9), (9, 7), (5, 14), (40, 3)))

    def test_forty(self):
        boxes = dict(zip("abcdefghijkl", laid(box_of(997, 3), list(range(1, 13)), (3, 4, 5))))
        self.check(boxes, 997, 3, ((40, 40), (1, 40), (40, 1), (39, 37)))

    def check(self, boxes, wide, high, counts):
        whole = {name: fractions_of(box) for name, box in boxes.items()}
        for columns, rows in counts:
            found = drawn(boxes, wide, high, columns, rows)
            self.assertEqual([[[name] for name in row] for row in found], all_drawn(whole, wide, high, columns, rows))
            self.check_middles(boxes, wide, high, columns, rows, found)

    def check_middles(self, boxes, wide, high, columns, rows, found):
        """A square has the thing in whose box its middle lies, for edges just there go to the lesser line."""
        for row, column in product(range(0, rows, 1 + rows // 6), range(0, columns, 1 + columns // 6)):
            x = Fraction(2 * column + 1, 2 * columns) * wide
            y = Fraction(2 * row + 1, 2 * rows) * high
            self.assertTrue(holds(boxes[found[row][column]], x.as_integer_ratio(), y.as_integer_ratio()))


class Refused(unittest.TestCase):
    BOXES = {"a": box_of(6, 4)}

    def test_bad_box(self):
        for thing in BAD_LENGTHS:
            with self.subTest(named(thing)):
                for wide, high in ((thing, 4), (6, thing), (thing, thing)):
                    for columns, rows in ((1, 1), (0, 41), (None, thing)):
                        with self.assertRaises(BadBox) as caught:
                            drawn(self.BOXES, wide, high, columns, rows)
                        self.assertEqual(vars(caught.exception), {"called": "BadBox"})

    def test_bad_sizes(self):
        for thing in BAD_COUNTS:
            with self.subTest(named(thing)):
                for columns, rows in ((thing, 4), (6, thing), (thing, thing)):
                    with self.assertRaises(BadSizes) as caught:
                        drawn(self.BOXES, 6, 4, columns, rows)
                    self.assertEqual(vars(caught.exception), {"called": "BadSizes"})

    def test_not_refused(self):
        for number in (1, 40, 1000):
            drawn({"a": box_of(number, number)}, number, number, 40, 40)


class Handing(unittest.TestCase):
    def test_a_told_list_is_new_and_so_are_its_lists(self):
        boxes = dict(zip("abc", laid(box_of(6, 4), [1, 1, 2], (2, 1))))
        found = drawn(boxes, 6, 4, 4, 4)
        held = copy.deepcopy(found)
        for at, row in enumerate(found):
            row[0] = "changed"
            self.assertTrue(all(other[0] != "changed" for other in found[at + 1:]))
        found.pop()
        self.assertEqual(drawn(boxes, 6, 4, 4, 4), held)

    def test_the_dict_is_not_changed_and_its_order_does_not_matter(self):
        boxes = dict(zip("abc", laid(box_of(6, 4), [1, 1, 2], (2, 1))))
        held = copy.deepcopy(boxes)
        told = drawn(boxes, 6, 4, 5, 3)
        self.assertRaises(BadSizes, drawn, boxes, 6, 4, 0, 3)
        self.assertEqual(list(boxes.items()), list(held.items()))
        for names in ("cba", "bca", "acb"):
            self.assertEqual(drawn({name: boxes[name] for name in names}, 6, 4, 5, 3), told)

    def test_by_names(self):
        boxes = halved(6, 4, DOWN)
        self.assertEqual(drawn(rows=2, columns=1, high=4, wide=6, boxes=boxes), [["a"], ["b"]])


if __name__ == "__main__":
    unittest.main()
