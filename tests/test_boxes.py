"""Points 4 to 6: boxes, what lies in them, their shares, and which of them touch."""

import copy
import unittest
from fractions import Fraction

from calmcuts.boxes import (ACROSS, DOWN, MOST_CHILDREN, MOST_WEIGHT, area, box_of, holds, is_box, shape, split,
                            touching)
from calmcuts.errors import BadBox, BadSide, BadWeight
from calmcuts.parts import plus
from things import BAD, BAD_SIDES, BAD_WEIGHTS, GOOD, GREAT, NUMBERS, OTHER_KINDS, named


class IsBox(unittest.TestCase):
    def test_good(self):
        for box in GOOD:
            self.assertIs(is_box(box), True)

    def test_bad(self):
        for thing in BAD:
            with self.subTest(named(thing)):
                self.assertIs(is_box(thing), False)

    def test_by_name(self):
        self.assertIs(is_box(thing=NUMBERS), True)


class BoxOf(unittest.TestCase):
    def test_plain(self):
        self.assertEqual(box_of(3, 2), NUMBERS)
        self.assertEqual(box_of(high=2, wide=3), NUMBERS)
        self.assertEqual(box_of(1, 1), ((0, 1), (0, 1), (1, 1), (1, 1)))

    def test_left_and_top(self):
        self.assertEqual(box_of(3, 2, left=-4), ((-4, 1), (0, 1), (3, 1), (2, 1)))
        self.assertEqual(box_of(3, 2, top=5), ((0, 1), (5, 1), (3, 1), (2, 1)))
        self.assertEqual(box_of(3, 2, top=-GREAT, left=GREAT), ((GREAT, 1), (-GREAT, 1), (3, 1), (2, 1)))
        self.assertEqual(box_of(GREAT, GREAT)[2:], ((GREAT, 1), (GREAT, 1)))

    def test_is_a_box(self):
        self.assertIs(is_box(box_of(7, 9, left=1, top=-1)), True)

    def test_no_number(self):
        for thing in OTHER_KINDS + [(3, 1), [3], "3"]:
            if thing is not True and thing is not False and isinstance(thing, int):
                continue
            with self.subTest(named(thing)):
                self.refuses(thing, 2)
                self.refuses(3, thing)
                self.refuses(3, 2, left=thing)
                self.refuses(3, 2, top=thing)

    def test_not_above_nought(self):
        for number in (0, -1, -7, -GREAT):
            self.refuses(number, 2)
            self.refuses(3, number)
            self.refuses(number, number, left=1, top=1)

    def test_left_and_top_by_their_names_only(self):
        with self.assertRaises(TypeError):
            box_of(3, 2, 1, 1)

    def refuses(self, wide, high, **more):
        with self.assertRaises(BadBox) as caught:
            box_of(wide, high, **more)
        self.assertEqual(caught.exception.called, "BadBox")


class AreaAndShape(unittest.TestCase):
    def test_area(self):
        self.assertEqual(area(box_of(3, 2)), (6, 1))
        self.assertEqual(area(box_of(3, 2, left=-5, top=9)), (6, 1))
        self.assertEqual(area(((1, 1), (1, 1), (2, 3), (3, 4))), (1, 2))
        self.assertEqual(area(((0, 1), (0, 1), (GREAT, 1), (1, GREAT))), (1, 1))

    def test_shape(self):
        self.assertEqual(shape(box_of(4, 4, left=1)), (1, 1))
        self.assertEqual(shape(box_of(4, 6)), (3, 2))
        self.assertEqual(shape(box_of(6, 4, top=8)), (3, 2))
        self.assertEqual(shape(((0, 1), (0, 1), (1, 3), (1, 2))), (3, 2))
        self.assertEqual(shape(((0, 1), (0, 1), (1, 2), (1, 3))), (3, 2))
        self.assertEqual(shape(((0, 1), (0, 1), (1, 7), (1, 7))), (1, 1))
        self.assertEqual(shape(box_of(GREAT, 1)), (GREAT, 1))
        self.assertEqual(shape(box_of(1, GREAT)), (GREAT, 1))
        self.assertEqual(shape(box_of(GREAT, GREAT - 1)), (GREAT, GREAT - 1))

    def test_refused(self):
        for thing in BAD:
            with self.subTest(named(thing)):
                self.assertRaises(BadBox, area, thing)
                self.assertRaises(BadBox, shape, thing)

    def test_by_name(self):
        self.assertEqual(area(box=NUMBERS), (6, 1))
        self.assertEqual(shape(box=NUMBERS), (3, 2))


class Holds(unittest.TestCase):
    BOX = ((1, 2), (-1, 3), (3, 1), (2, 1))  # from 1/2 to 7/2, from -1/3 to 5/3
    LEFT, RIGHT, TOP, BOTTOM = (1, 2), (7, 2), (-1, 3), (5, 3)
    SMALL = (1, 10 ** 60)

    def test_within(self):
        for x, y in [((1, 1), (0, 1)), ((3, 1), (1, 1)), ((3, 2), (3, 2))]:
            self.assertIs(holds(self.BOX, x, y), True)

    def test_corners(self):
        self.assertIs(holds(self.BOX, self.LEFT, self.TOP), True)
        self.assertIs(holds(self.BOX, self.RIGHT, self.TOP), False)
        self.assertIs(holds(self.BOX, self.LEFT, self.BOTTOM), False)
        self.assertIs(holds(self.BOX, self.RIGHT, self.BOTTOM), False)

    def test_ends(self):
        self.assertIs(holds(self.BOX, self.LEFT, (1, 1)), True)
        self.assertIs(holds(self.BOX, self.RIGHT, (1, 1)), False)
        self.assertIs(holds(self.BOX, (2, 1), self.TOP), True)
        self.assertIs(holds(self.BOX, (2, 1), self.BOTTOM), False)

    def test_next_to_ends(self):
        self.assertIs(holds(self.BOX, less_by(self.LEFT, self.SMALL), (1, 1)), False)
        self.assertIs(holds(self.BOX, plus(self.LEFT, self.SMALL), (1, 1)), True)
        self.assertIs(holds(self.BOX, less_by(self.RIGHT, self.SMALL), (1, 1)), True)
        self.assertIs(holds(self.BOX, plus(self.RIGHT, self.SMALL), (1, 1)), False)
        self.assertIs(holds(self.BOX, (1, 1), less_by(self.TOP, self.SMALL)), False)
        self.assertIs(holds(self.BOX, (1, 1), plus(self.TOP, self.SMALL)), True)
        self.assertIs(holds(self.BOX, (1, 1), less_by(self.BOTTOM, self.SMALL)), True)
        self.assertIs(holds(self.BOX, (1, 1), plus(self.BOTTOM, self.SMALL)), False)

    def test_beside(self):
        for x, y in [((0, 1), (1, 1)), ((4, 1), (1, 1)), ((1, 1), (-1, 1)), ((1, 1), (2, 1)), ((9, 1), (9, 1))]:
            self.assertIs(holds(self.BOX, x, y), False)

    def test_each_point_in_one_of_the_split(self):
        boxes = split(box_of(7, 5), [3, 1, 9, 2], side=ACROSS)
        for x in range(70):
            point = Fraction(x, 10)
            found = [holds(box, (point.numerator, point.denominator), (4, 1)) for box in boxes]
            self.assertEqual(found.count(True), 1)

    def test_refused(self):
        for thing in BAD:
            with self.subTest(named(thing)):
                self.assertRaises(BadBox, holds, thing, (0, 1), (0, 1))

    def test_by_names(self):
        self.assertIs(holds(y=(0, 1), x=(1, 1), box=self.BOX), True)


def less_by(one, other):
    return plus(one, (-other[0], other[1]))


class Split(unittest.TestCase):
    BOX = ((1, 3), (-2, 1), (7, 2), (5, 1))
    WEIGHTS = [[1], [400000], [1, 1], [1, 2, 3], [400000, 1], list(range(1, 13)), [400000] * 12, [7, 7, 1, 399999]]

    def test_down(self):
        found = split(box_of(6, 4), [1, 3])
        self.assertEqual(found, [((0, 1), (0, 1), (6, 1), (1, 1)), ((0, 1), (1, 1), (6, 1), (3, 1))])
        self.assertEqual(split(box_of(6, 4), [1, 3], side=DOWN), found)
        self.assertEqual(split(box_of(6, 4), [1, 3], side="down"), found)

    def test_across(self):
        found = split(box_of(6, 4, left=2), (1, 2), side=ACROSS)
        self.assertEqual(found, [((2, 1), (0, 1), (2, 1), (4, 1)), ((4, 1), (0, 1), (4, 1), (4, 1))])
        self.assertEqual(split(box_of(6, 4, left=2), (1, 2), side="across"), found)

    def test_one_weight(self):
        for weight in (1, 5, MOST_WEIGHT):
            for side in (DOWN, ACROSS):
                self.assertEqual(split(self.BOX, [weight], side=side), [self.BOX])

    def test_shares_and_ends(self):
        for weights in self.WEIGHTS:
            for side, begin, length in ((DOWN, 1, 3), (ACROSS, 0, 2)):
                for box in [self.BOX] + GOOD:
                    self.check(box, weights, side, begin, length)

    def check(self, box, weights, side, begin, length):
        found = split(box, weights, side=side)
        self.assertIsInstance(found, list)
        self.assertEqual(len(found), len(weights))
        whole = Fraction(*area(box))
        end = box[begin]
        for weight, share in zip(weights, found):
            self.assertIs(is_box(share), True)
            self.assertEqual(Fraction(*area(share)), whole * weight / sum(weights))
            self.assertEqual(share[begin], end)
            self.assertEqual((share[1 - begin], share[5 - length]), (box[1 - begin], box[5 - length]))
            end = plus(end, share[length])
        self.assertEqual(end, plus(box[begin], box[length]))

    def test_lists_and_tuples(self):
        self.assertEqual(split(self.BOX, (3, 1, 2)), split(self.BOX, [3, 1, 2]))

    def test_by_names(self):
        self.assertEqual(split(side=ACROSS, weights=[1, 2], box=self.BOX), split(self.BOX, [1, 2], side=ACROSS))
        with self.assertRaises(TypeError):
            split(self.BOX, [1, 2], ACROSS)

    def test_bad_box(self):
        for thing in BAD:
            with self.subTest(named(thing)):
                self.assertRaises(BadBox, split, thing, [1, 2])

    def test_bad_weight(self):
        for thing in BAD_WEIGHTS:
            with self.subTest(named(thing)):
                self.assertRaises(BadWeight, split, self.BOX, thing)
                self.assertRaises(BadWeight, split, self.BOX, thing, side=ACROSS)

    def test_bad_side(self):
        for thing in BAD_SIDES:
            with self.subTest(named(thing)):
                self.assertRaises(BadSide, split, self.BOX, [1, 2], side=thing)

    def test_order_of_refusals(self):
        self.assertRaises(BadBox, split, None, [], side="up")
        self.assertRaises(BadBox, split, None, [1], side="up")
        self.assertRaises(BadBox, split, None, [])
        self.assertRaises(BadWeight, split, self.BOX, [], side="up")
        self.assertRaises(BadWeight, split, self.BOX, [0], side=None)

    def test_changes_nothing_handed_in(self):
        weights = [5, 1, 3]
        split(self.BOX, weights)
        self.assertEqual(weights, [5, 1, 3])
        refused = [5, 0, [3]]
        kept = copy.deepcopy(refused)
        self.assertRaises(BadWeight, split, self.BOX, refused)
        self.assertEqual(refused, kept)

    def test_a_told_list_is_new(self):
        weights = [5, 1, 3]
        first = split(self.BOX, weights)
        kept = list(first)
        weights.append(7)
        self.assertEqual(first, kept)
        first.clear()
        self.assertEqual(split(self.BOX, [5, 1, 3]), kept)


class Touching(unittest.TestCase):
    def both(self, one, other, length):
        self.assertEqual(touching(one, other), length)
        self.assertEqual(touching(other, one), length)

    def test_side_by_side(self):
        self.both(box_of(3, 2), box_of(1, 2, left=3), (2, 1))
        self.both(box_of(3, 2), box_of(1, 9, left=3, top=-4), (2, 1))
        self.both(box_of(3, 9), box_of(1, 2, left=3, top=4), (2, 1))

    def test_beneath(self):
        self.both(box_of(3, 2), box_of(3, 5, top=2), (3, 1))
        self.both(box_of(3, 2), box_of(9, 5, top=2, left=-3), (3, 1))

    def test_in_part(self):
        self.both(box_of(3, 2), box_of(1, 2, left=3, top=1), (1, 1))
        self.both(box_of(3, 2), box_of(1, 2, left=3, top=-1), (1, 1))
        self.both(box_of(3, 2), box_of(3, 2, left=1, top=2), (2, 1))
        self.both(box_of(3, 2), box_of(3, 2, left=-2, top=2), (1, 1))
        self.both(((0, 1), (0, 1), (1, 3), (1, 2)), ((1, 3), (1, 7), (1, 5), (1, 1)), (5, 14))
        self.both(((0, 1), (0, 1), (1, 3), (1, 2)), ((1, 7), (1, 2), (1, 1), (1, 1)), (4, 21))

    def test_hardly(self):
        self.both(box_of(1, 1), ((1, 1), (GREAT - 1, GREAT), (1, 1), (1, 1)), (1, GREAT))

    def test_corner(self):
        for left, top in ((3, 2), (-3, 2), (3, -2), (-3, -2)):
            self.both(box_of(3, 2), box_of(3, 2, left=left, top=top), (0, 1))

    def test_apart(self):
        for left, top in ((4, 0), (-4, 1), (0, 3), (1, -3), (4, 3), (4, 2), (3, 3), (90, -90)):
            self.both(box_of(3, 2), box_of(3, 2, left=left, top=top), (0, 1))
        self.both(box_of(1, 1), ((GREAT, GREAT - 1), (0, 1), (1, 1), (1, 1)), (0, 1))

    def test_of_a_split(self):
        for side, length in ((DOWN, (7, 1)), (ACROSS, (5, 1))):
            boxes = split(box_of(7, 5), [3, 1, 11, 2], side=side)
            for at, one in enumerate(boxes):
                for other_at, other in enumerate(boxes):
                    if at != other_at:
                        beside = abs(at - other_at) == 1
                        self.assertEqual(touching(one, other), length if beside else (0, 1))

    def test_refused(self):
        for thing in BAD:
            with self.subTest(named(thing)):
                self.assertRaises(BadBox, touching, thing, NUMBERS)
                self.assertRaises(BadBox, touching, NUMBERS, thing)
                self.assertRaises(BadBox, touching, thing, thing)

    def test_by_names(self):
        self.assertEqual(touching(other=box_of(1, 2, left=3), one=NUMBERS), (2, 1))


class Values(unittest.TestCase):
    def test_values(self):
        self.assertEqual((DOWN, ACROSS, MOST_CHILDREN, MOST_WEIGHT), ("down", "across", 12, 400000))


if __name__ == "__main__":
    unittest.main()
