"""Point 7: rows laid in a box, the shape of a row, the worst shape of sizes; point 2 for these."""

import copy
import unittest

from calmcuts.boxes import ACROSS, DOWN, MOST_WEIGHT, box_of, shape
from calmcuts.errors import BadBox, BadSide, BadSizes, BadWeight
from calmcuts.parts import less
from calmcuts.rows import laid, row_shape, worst
from plainly import all_laid, all_sizes, fractions_of, pair, pairs_of, shape_of_row, worst_of
from things import BAD, BAD_SIDES, BAD_SIZES, BAD_WEIGHTS, GOOD, GREAT, NUMBERS, Prickly, named

SIDES = (DOWN, ACROSS)
BOX = ((1, 3), (-2, 1), (7, 2), (5, 1))
WEIGHTS = [[1], [400000], [1, 1], [3, 1], [1, 2, 3], [5, 5, 5], [400000, 1, 7, 7], [2, 9, 4, 1, 6], [1, 1, 1, 1, 1, 1]]
TWELVE = [[MOST_WEIGHT] * 12, [1] * 12, list(range(1, 13)), [MOST_WEIGHT, 1] * 6]


class Laid(unittest.TestCase):
    def test_down(self):
        first = ((0, 1), (0, 1), (3, 1), (2, 1))
        second = ((3, 1), (0, 1), (3, 1), (2, 1))
        third = ((0, 1), (2, 1), (6, 1), (2, 1))
        self.assertEqual(laid(box_of(6, 4), [1, 1, 2], (2, 1)), [first, second, third])
        self.assertEqual(laid(box_of(6, 4), [1, 1, 2], (2, 1), side="down"), [first, second, third])

    def test_across(self):
        first = ((0, 1), (0, 1), (3, 1), (2, 1))
        second = ((0, 1), (2, 1), (3, 1), (2, 1))
        third = ((3, 1), (0, 1), (3, 1), (4, 1))
        self.assertEqual(laid(box_of(6, 4), [1, 1, 2], (2, 1), side="across"), [first, second, third])

    def test_box_that_begins_elsewhere(self):
        first = ((5, 1), (-1, 1), (4, 1), (1, 1))
        second = ((5, 1), (0, 1), (1, 1), (2, 1))
        third = ((6, 1), (0, 1), (3, 1), (2, 1))
        self.assertEqual(laid(box_of(4, 3, left=5, top=-1), [2, 1, 3], (1, 2)), [first, second, third])

    def test_one_weight(self):
        for box in GOOD + [BOX]:
            for side in SIDES:
                for weight in (1, 7, MOST_WEIGHT):
                    self.assertEqual(laid(box, [weight], (1,), side=side), [box])

    def test_all_sizes(self):
        for box in GOOD + [BOX]:
            for weights in WEIGHTS:
                for side in SIDES:
                    for sizes in all_sizes(len(weights)):
                        self.check(box, weights, sizes, side)

    def test_twelve(self):
        for weights in TWELVE:
            for side in SIDES:
                for sizes in ((12,), (1,) * 12, (5, 7), (1, 11), (11, 1), (2, 3, 1, 6)):
                    self.check(BOX, weights, sizes, side)

    def check(self, box, weights, sizes, side):
        found = laid(box, weights, sizes, side=side)
        self.assertIsInstance(found, list)
        self.assertEqual(found, [pairs_of(one) for one in all_laid(fractions_of(box), weights, sizes, side)])

    def test_lists_and_tuples(self):
        self.assertEqual(laid(BOX, (3, 1, 2), (1, 2)), laid(BOX, [3, 1, 2], (1, 2)))

    def test_by_names(self):
        told = laid(BOX, [3, 1, 2], (1, 2), side=ACROSS)
        self.assertEqual(laid(side=ACROSS, sizes=(1, 2), weights=[3, 1, 2], box=BOX), told)
        with self.assertRaises(TypeError):
            laid(BOX, [3, 1, 2], (1, 2), ACROSS)

    def test_a_told_list_is_new(self):
        weights = [3, 1, 2]
        found = laid(BOX, weights, (1, 2))
        kept = list(found)
        self.assertEqual(weights, [3, 1, 2])
        weights[0] = 9
        self.assertEqual(found, kept)
        found.clear()
        self.assertEqual(laid(BOX, [3, 1, 2], (1, 2)), kept)
        one = laid(BOX, [3], (1,))
        one.append(None)
        self.assertEqual(laid(BOX, [3], (1,)), [BOX])


class RowShape(unittest.TestCase):
    def test_plain(self):
        # Rows of 6 by 2: halves of one of them are 3 by 2, and the other one is whole.
        self.assertEqual(row_shape(box_of(6, 4), [1, 1, 2], 0, 2), (3, 2))
        self.assertEqual(row_shape(box_of(6, 4), [1, 1, 2], 2, 1), (3, 1))
        self.assertEqual(row_shape(box_of(6, 4), [1, 1, 2], 0, 1), (6, 1))
        self.assertEqual(row_shape(box_of(6, 4), [1, 1, 2], 2, 1, side=ACROSS), (4, 3))
        self.assertEqual(row_shape(box_of(6, 4), [1, 1, 2], 0, 3, side="down"), (8, 3))

    def test_the_lightest_or_the_heaviest_is_the_worst(self):
        # In a square of 6 by 6 the one is 1 by 6, the other 5 by 6.
        self.assertEqual(row_shape(box_of(6, 6), [1, 5], 0, 2), (6, 1))
        # A row of 60 by 1: the one is 10 long, the other 50.
        self.assertEqual(row_shape(box_of(60, 1), [1, 5], 0, 2), (50, 1))

    def test_all_rows(self):
        for box in GOOD + [BOX]:
            for weights in WEIGHTS:
                for side in SIDES:
                    self.check_all(box, weights, side)

    def test_twelve(self):
        for weights in TWELVE:
            for side in SIDES:
                self.check_all(BOX, weights, side)

    def check_all(self, box, weights, side):
        whole = fractions_of(box)
        for first in range(len(weights)):
            for size in range(1, len(weights) - first + 1):
                found = row_shape(box, weights, first, size, side=side)
                self.assertEqual(found, pair(shape_of_row(whole, weights, first, size, side)))

    def test_it_does_not_hang_on_the_other_rows(self):
        weights = [3, 1, 4, 1, 5]
        for side in SIDES:
            for sizes in all_sizes(5):
                boxes = laid(BOX, weights, sizes, side=side)
                first = 0
                for size in sizes:
                    shapes = [shape(box) for box in boxes[first:first + size]]
                    told = row_shape(BOX, weights, first, size, side=side)
                    self.assertIn(told, shapes)
                    self.assertFalse(any(less(told, one) for one in shapes))
                    first += size

    def test_no_such_row(self):
        for many in (1, 2, 3, 12):
            weights = [5] * many
            for first, size in [(-1, 1), (-1, 2), (0, 0), (0, -1), (1, -1), (many, 0), (many, 1), (many, -1),
                                (0, many + 1), (many - 1, 2), (1, many), (GREAT, 1), (0, GREAT), (-GREAT, GREAT + 1), (GREAT, -GREAT),
                                (GREAT, 1 - GREAT), (-many, 1), (-1, many)]:
                with self.subTest(many=many, first=first, size=size):
                    self.assertRaises(BadSizes, row_shape, BOX, weights, first, size)
                    self.assertRaises(BadSizes, row_shape, BOX, weights, first, size, side=ACROSS)

    def test_no_numbers(self):
        for thing in (None, True, False, "1", "", 1.0, (1,), [1], {1: 1}, object(), int, Prickly()):
            with self.subTest(named(thing)):
                self.assertRaises(BadSizes, row_shape, BOX, [1, 2, 3], thing, 1)
                self.assertRaises(BadSizes, row_shape, BOX, [1, 2, 3], 1, thing)
                self.assertRaises(BadSizes, row_shape, BOX, [1, 2, 3], thing, thing)

    def test_by_names(self):
        told = row_shape(BOX, [3, 1, 2], 1, 2, side=ACROSS)
        self.assertEqual(row_shape(size=2, first=1, side=ACROSS, weights=(3, 1, 2), box=BOX), told)
        with self.assertRaises(TypeError):
            row_shape(BOX, [3, 1, 2], 1, 2, ACROSS)


class Worst(unittest.TestCase):
    def test_plain(self):
        self.assertEqual(worst(box_of(6, 4), [1, 1, 2], (2, 1)), (3, 1))
        self.assertEqual(worst(box_of(6, 4), [1, 1, 2], (2, 1), side=ACROSS), (3, 2))
        self.assertEqual(worst(box_of(6, 4), [1, 1, 2], (1, 1, 1)), (6, 1))
        self.assertEqual(worst(box_of(4, 4), [1, 1, 1, 1], (2, 2)), (1, 1))

    def test_all_sizes(self):
        for box in GOOD + [BOX]:
            for weights in WEIGHTS:
                for side in SIDES:
                    for sizes in all_sizes(len(weights)):
                        found = worst(box, weights, sizes, side=side)
                        self.assertEqual(found, pair(worst_of(fractions_of(box), weights, sizes, side)))

    def test_one_weight(self):
        for box in GOOD:
            for side in SIDES:
                self.assertEqual(worst(box, [9], (1,), side=side), shape(box))

    def test_twelve(self):
        for weights in TWELVE:
            for side in SIDES:
                for sizes in ((12,), (1,) * 12, (4, 1, 2, 5)):
                    found = worst(BOX, weights, sizes, side=side)
                    self.assertEqual(found, pair(worst_of(fractions_of(BOX), weights, sizes, side)))

    def test_by_names(self):
        told = worst(BOX, [3, 1, 2], (1, 2), side=ACROSS)
        self.assertEqual(worst(side=ACROSS, sizes=(1, 2), weights=[3, 1, 2], box=BOX), told)
        with self.assertRaises(TypeError):
            worst(BOX, [3, 1, 2], (1, 2), ACROSS)


class Refused(unittest.TestCase):
    CALLS = [(laid, [(1, 2)]), (worst, [(1, 2)]), (row_shape, [1, 2])]
    BAD_CALLS = [(laid, [[1, 2]]), (worst, [None]), (row_shape, [3, 1]), (row_shape, [0, 0]), (row_shape, [None, True])]

    def test_bad_box(self):
        for call, more in self.CALLS:
            for thing in BAD:
                with self.subTest(named(thing)):
                    self.assertRaises(BadBox, call, thing, [1, 2, 3], *more)

    def test_bad_weight(self):
        for call, more in self.CALLS:
            for thing in BAD_WEIGHTS:
                with self.subTest(named(thing)):
                    self.assertRaises(BadWeight, call, BOX, thing, *more)

    def test_bad_side(self):
        for call, more in self.CALLS:
            for thing in BAD_SIDES:
                with self.subTest(named(thing)):
                    self.assertRaises(BadSide, call, BOX, [1, 2, 3], *more, side=thing)

    def test_bad_sizes(self):
        for call in (laid, worst):
            for thing in BAD_SIZES:
                with self.subTest(named(thing)):
                    with self.assertRaises(BadSizes) as caught:
                        call(BOX, [1, 2, 3], thing)
                    self.assertEqual(vars(caught.exception), {"called": "BadSizes"})
                    self.assertRaises(BadSizes, call, BOX, [1, 2, 3], thing, side=ACROSS)

    def test_sizes_of_another_number(self):
        for call in (laid, worst):
            for many, sizes in [(1, (2,)), (1, (1, 1)), (12, (11,)), (12, (1,) * 11), (12, (13,)), (12, (1,) * 13)]:
                self.assertRaises(BadSizes, call, BOX, [1] * many, sizes)

    def test_order(self):
        for call, more in self.BAD_CALLS:
            self.assertRaises(BadBox, call, None, [], *more, side="up")
            self.assertRaises(BadBox, call, None, [1, 2, 3], *more)
            self.assertRaises(BadBox, call, None, [1, 2, 3], *more, side="up")
            self.assertRaises(BadWeight, call, BOX, [0], *more, side="up")
            self.assertRaises(BadWeight, call, BOX, [], *more)
            self.assertRaises(BadSide, call, BOX, [1, 2, 3], *more, side="up")
            self.assertRaises(BadSizes, call, BOX, [1, 2, 3], *more)

    def test_nothing_handed_in_is_changed(self):
        for weights, sizes in [([5, 0, [3]], (1, 2)), ([5, 1, 3], [1, [2]])]:
            kept = copy.deepcopy((weights, sizes))
            self.assertRaises((BadWeight, BadSizes), laid, NUMBERS, weights, sizes)
            self.assertRaises((BadWeight, BadSizes), worst, NUMBERS, weights, sizes)
            self.assertEqual((weights, sizes), kept)


if __name__ == "__main__":
    unittest.main()
