"""Points 8 and 9: best and greedy sizes, beginnings come to for a bound, lists that shut it; point 2 for these."""

import copy
import unittest
from fractions import Fraction
from itertools import combinations, product

from calmcuts.best import beginnings, best, greedy, least, shuts
from calmcuts.boxes import ACROSS, DOWN, MOST_WEIGHT, box_of, shape
from calmcuts.errors import BadBound, BadBox, BadSide, BadWeight
from calmcuts.rows import row_shape, worst
from plainly import all_sizes, ends_of, pair, shapes_of_rows
from things import BAD, BAD_BOUNDS, BAD_SIDES, BAD_WEIGHTS, GOOD, GREAT, Prickly, named

SIDES = (DOWN, ACROSS)
BOX = ((1, 3), (-2, 1), (7, 2), (5, 1))
BOXES = [box_of(6, 4), box_of(6, 6), box_of(1, 40), box_of(40, 1), BOX]
WEIGHTS = ([list(weights) for many in (1, 2, 3, 4) for weights in product((1, 2, 5), repeat=many)] +
           [[1] * 5, [1] * 7, [7, 1, 1, 7, 1, 1], [400000, 1, 1, 400000], [1, 2, 3, 4, 5, 6, 7], [9, 8, 5, 3, 2, 1, 1]])
TWELVE = [[MOST_WEIGHT] * 12, list(range(1, 13)), [MOST_WEIGHT, 1] * 6, [3, 1, 4, 1, 5, 9, 2, 6, 5, 3, 5, 8]]


def best_of_all(shapes, many):
    """The least worst shape of all sizes, and the first of those that have it."""
    worsts = {sizes: max(shapes[row] for row in ends_of(sizes)) for sizes in all_sizes(many)}
    least_worst = min(worsts.values())
    return least_worst, min(sizes for sizes in worsts if worsts[sizes] == least_worst)


def greedy_by_the_word(shapes, many):
    sizes = []
    first = 0
    while first < many:
        end = first + 1
        while end < many and shapes[first, end + 1] <= shapes[first, end]:
            end += 1
        sizes.append(end - first)
        first = end
    return tuple(sizes)


def come_to(shapes, many, bound):
    """All beginnings of all sizes whose rows ahead of them are below the bound."""
    found = {0}
    for sizes in all_sizes(many):
        for first, end in ends_of(sizes):
            if shapes[first, end] >= bound:
                break
            found.add(end)
    return sorted(found)


def shut_by_the_word(shapes, many, bound, some):
    if 0 not in some or many in some:
        return False
    return all(shape_told >= bound for (first, end), shape_told in shapes.items() if first in some and end not in some)


def bounds_for(shapes):
    """Each row's shape, just more, just less, and some others, as far as they are bounds."""
    small = Fraction(1, 10 ** 90)
    near = [told + by for told in set(shapes.values()) for by in (-small, 0, small)]
    return [told for told in near + [Fraction(1), Fraction(2), Fraction(GREAT)] if told >= 1]


class Best(unittest.TestCase):
    def test_plain(self):
        self.assertEqual(best(box_of(4, 4), [1, 1, 1, 1]), (2, 2))
        self.assertEqual(best(box_of(6, 4), [1, 1, 2]), (3,))
        self.assertEqual(best(box_of(6, 4), [1, 1, 2], side="across"), (2, 1))
        self.assertEqual(best(box_of(40, 1), [3, 1, 2]), (3,))
        self.assertEqual(best(box_of(40, 1), [3, 1, 2], side=ACROSS), (1, 1, 1))
        self.assertEqual(best(box_of(1, 40), [3, 1, 2], side=DOWN), (1, 1, 1))

    def test_of_several_the_first(self):
        # Three equal things in a square: whatever the rows are, a thing is 3 times as long as wide.
        for side in SIDES:
            for sizes in all_sizes(3):
                self.assertEqual(worst(box_of(6, 6), [1, 1, 1], sizes, side=side), (3, 1))
            self.assertEqual(best(box_of(6, 6), [1, 1, 1], side=side), (1, 1, 1))
            self.assertEqual(best(box_of(6, 6), [1, 1], side=side), (1, 1))

    def test_all_others_as_good_come_later(self):
        ties = 0
        for weights in WEIGHTS:
            shapes = shapes_of_rows(box_of(6, 6), weights, DOWN)
            told = best(box_of(6, 6), weights)
            least_worst = Fraction(*least(box_of(6, 6), weights))
            for sizes in all_sizes(len(weights)):
                if sizes != told and max(shapes[row] for row in ends_of(sizes)) == least_worst:
                    self.assertLess(told, sizes)
                    ties += 1
        self.assertGreater(ties, 20)

    def test_one_weight(self):
        for box in GOOD:
            for side in SIDES:
                self.assertEqual(best(box, [5], side=side), (1,))
                self.assertEqual(least(box, [5], side=side), shape(box))
                self.assertEqual(greedy(box, [MOST_WEIGHT], side=side), (1,))

    def test_all_tried(self):
        for box in BOXES:
            for weights in WEIGHTS:
                for side in SIDES:
                    self.check(box, weights, side)

    def test_twelve(self):
        for weights in TWELVE:
            for side in SIDES:
                self.check(BOX, weights, side)

    def test_great_numbers(self):
        for box in GOOD:
            self.check(box, [3, 1, 4], DOWN)
            self.check(box, [3, 1, 4], ACROSS)

    def check(self, box, weights, side):
        least_worst, sizes = best_of_all(shapes_of_rows(box, weights, side), len(weights))
        found = best(box, weights, side=side)
        self.assertIsInstance(found, tuple)
        self.assertEqual(found, sizes)
        self.assertEqual(least(box, weights, side=side), pair(least_worst))
        self.assertEqual(worst(box, weights, found, side=side), pair(least_worst))


class Greedy(unittest.TestCase):
    def test_plain(self):
        self.assertEqual(greedy(box_of(4, 4), [1, 1, 1, 1]), (2, 2))
        self.assertEqual(greedy(box_of(40, 1), [3, 1, 2]), (3,))
        self.assertEqual(greedy(box_of(1, 40), [3, 1, 2]), (1, 1, 1))
        self.assertEqual(greedy(box_of(1, 40), [3, 1, 2], side=ACROSS), (3,))

    def test_it_takes_what_makes_the_shape_just_no_greater(self):
        for side in SIDES:
            self.assertEqual(row_shape(box_of(6, 6), [1, 1], 0, 1, side=side), (2, 1))
            self.assertEqual(row_shape(box_of(6, 6), [1, 1], 0, 2, side=side), (2, 1))
            self.assertEqual(greedy(box_of(6, 6), [1, 1], side=side), (2,))
            self.assertEqual(greedy(box_of(6, 6), [1, 1, 1], side=side), (2, 1))

    def test_by_the_word(self):
        for box in BOXES:
            for weights in WEIGHTS:
                for side in SIDES:
                    self.check(box, weights, side)
        for weights in TWELVE:
            for side in SIDES:
                self.check(BOX, weights, side)

    def test_it_is_not_always_the_best(self):
        self.assertTrue(any(greedy(box, weights) != best(box, weights) for box in BOXES for weights in WEIGHTS))

    def check(self, box, weights, side):
        found = greedy(box, weights, side=side)
        self.assertIsInstance(found, tuple)
        self.assertEqual(found, greedy_by_the_word(shapes_of_rows(box, weights, side), len(weights)))


class Beginnings(unittest.TestCase):
    def test_plain(self):
        # Two halves of a square, each way: the shape of each row is 2.
        self.assertEqual(beginnings(box_of(6, 6), [1, 1], (2, 1)), [0])
        self.assertEqual(beginnings(box_of(6, 6), [1, 1], (3, 1)), [0, 1, 2])
        self.assertEqual(beginnings(box_of(6, 6), [1, 1], (1, 1)), [0])
        self.assertEqual(beginnings(box_of(4, 4), [1, 1, 1, 1], (11, 10)), [0, 2, 4])
        self.assertEqual(beginnings(box_of(4, 4), [1, 1, 1, 1], (1, 1)), [0])

    def test_one_weight(self):
        self.assertEqual(beginnings(box_of(6, 4), [5], (3, 2)), [0])
        self.assertEqual(beginnings(box_of(6, 4), [5], (3 * 10 ** 150 + 1, 2 * 10 ** 150)), [0, 1])

    def test_all_tried(self):
        for box in BOXES:
            for weights in WEIGHTS[::3]:
                for side in SIDES:
                    self.check(box, weights, side)

    def check(self, box, weights, side):
        shapes = shapes_of_rows(box, weights, side)
        for bound in bounds_for(shapes):
            found = beginnings(box, weights, pair(bound), side=side)
            self.assertIsInstance(found, list)
            self.assertEqual(found, come_to(shapes, len(weights), bound))
            self.assertIs(len(weights) in found, Fraction(*least(box, weights, side=side)) < bound)
            self.assertIs(shuts(box, weights, pair(bound), found, side=side), len(weights) not in found)

    def test_twelve(self):
        for weights in TWELVE:
            for side in SIDES:
                shapes = shapes_of_rows(BOX, weights, side)
                for bound in bounds_for(shapes)[::20]:
                    found = beginnings(BOX, weights, pair(bound), side=side)
                    self.assertEqual(found, come_to(shapes, 12, bound))

    def test_a_told_list_is_new(self):
        found = beginnings(BOX, [1, 2], (9, 1))
        kept = list(found)
        found.clear()
        self.assertEqual(beginnings(BOX, [1, 2], (9, 1)), kept)


class Shuts(unittest.TestCase):
    SQUARE = box_of(6, 6)

    def test_plain(self):
        self.assertIs(shuts(self.SQUARE, [1, 1], (2, 1), [0]), True)
        self.assertIs(shuts(self.SQUARE, [1, 1], (2, 1), [0, 1]), True)
        self.assertIs(shuts(self.SQUARE, [1, 1], (2, 1), [0, 1, 2]), False)
        self.assertIs(shuts(self.SQUARE, [1, 1], (3, 1), [0]), False)
        self.assertIs(shuts(self.SQUARE, [1, 1], (3, 1), [0, 1]), False)
        self.assertIs(shuts(self.SQUARE, [1, 1], (2 * 10 ** 99 + 1, 10 ** 99), [0]), False)

    def test_a_list_may_have_more_than_is_come_to(self):
        self.assertEqual(beginnings(self.SQUARE, [1, 1, 1, 1], (1, 1)), [0])
        for some in ([0], [0, 1], [0, 2], [0, 3], [0, 1, 2, 3]):
            self.assertIs(shuts(self.SQUARE, [1, 1, 1, 1], (1, 1), some), True)

    def test_a_list_that_lacks_what_is_come_to(self):
        # A row of two thirds has things of 3 by 4, one of a third or of all three a shape of just 3.
        self.assertEqual(beginnings(self.SQUARE, [1, 1, 1], (3, 1)), [0, 2])
        self.assertIs(shuts(self.SQUARE, [1, 1, 1], (3, 1), [0, 2]), True)
        self.assertIs(shuts(self.SQUARE, [1, 1, 1], (3, 1), [0]), False)
        self.assertIs(shuts(self.SQUARE, [1, 1, 1], (3, 1), [0, 1, 2]), False)
        self.assertIs(shuts(self.SQUARE, [1, 1, 1], (4, 3), [0]), True)

    def test_nothing_in_it(self):
        for bound in ((1, 1), (2, 1), (9, 1)):
            self.assertIs(shuts(self.SQUARE, [1, 1], bound, []), False)
            self.assertIs(shuts(self.SQUARE, [1, 1], bound, [1]), False)
            self.assertIs(shuts(self.SQUARE, [1, 1], bound, [2]), False)
            self.assertIs(shuts(self.SQUARE, [1, 1], bound, [-1, 3]), False)

    def test_strange_doubled_and_unordered_numbers(self):
        for some in ([0, -1], [-1, 0], [3, 0], [0, 13], [GREAT, 0, -GREAT], [0, 0], [1, 0], [1, 0, 1, 0],
                     [5, 1, -2, 0, 5]):
            self.assertIs(shuts(self.SQUARE, [1, 1], (2, 1), some), True)
            self.assertIs(shuts(self.SQUARE, [1, 1], (2, 1), some + [2]), False)
            self.assertIs(shuts(self.SQUARE, [1, 1], (2, 1), [2] + some), False)
            self.assertIs(shuts(self.SQUARE, [1, 1], (3, 1), some), False)
        self.assertIs(shuts(self.SQUARE, [1, 1], (2, 1), [0, 1] * 5000), True)

    def test_all_lists(self):
        for box in BOXES[:2] + [BOX]:
            for weights in ([5], [1, 1], [1, 1, 1], [1, 2, 5], [5, 1, 1, 2], [1, 1, 1, 1]):
                for side in SIDES:
                    self.check_all_lists(box, weights, side)

    def check_all_lists(self, box, weights, side):
        shapes = shapes_of_rows(box, weights, side)
        many = len(weights)
        numbers = range(-1, many + 2)
        lists = [list(some) for size in range(many + 4) for some in combinations(numbers, size)]
        for bound in bounds_for(shapes):
            for some in lists:
                told = shuts(box, weights, pair(bound), some, side=side)
                self.assertIs(told, shut_by_the_word(shapes, many, bound, some))
                self.assertIs(shuts(box, weights, pair(bound), some[::-1] + some, side=side), told)
                if told:
                    self.assertGreaterEqual(Fraction(*least(box, weights, side=side)), bound)

    def test_twelve(self):
        for weights in TWELVE:
            bound = least(BOX, weights)
            found = beginnings(BOX, weights, bound)
            self.assertIs(shuts(BOX, weights, bound, found), True)
            self.assertIs(shuts(BOX, weights, bound, found[1:]), False)
            self.assertIs(shuts(BOX, weights, bound, found + [12]), False)

    def test_no_list_of_numbers(self):
        things = [None, True, False, 0, 1, "", "0", b"0", (0,), (), {0: 0}, {0}, range(1), object(), int, Prickly(),
                  [False], [0, True], [0, False], [0, None], [0, "1"], [0, 1.0], [0.0], ["0"], [[0]], [0, [1]],
                  [0, (1,)], [0, Prickly()], [Prickly(), 0], [Prickly()]]
        for thing in things:
            with self.subTest(named(thing)):
                self.assertIs(shuts(self.SQUARE, [1, 1], (2, 1), thing), False)

    def test_the_list_is_not_changed(self):
        some = [5, 1, 0, 1]
        shuts(self.SQUARE, [1, 1], (2, 1), some)
        self.assertEqual(some, [5, 1, 0, 1])


class Refused(unittest.TestCase):
    CALLS = [(best, []), (greedy, []), (least, []), (beginnings, [(2, 1)]), (shuts, [(2, 1), [0]])]
    WITH_BOUND = [(beginnings, []), (shuts, [[0]]), (shuts, [None])]

    def test_bad_box(self):
        for call, more in self.CALLS:
            for thing in BAD:
                with self.subTest(named(thing)):
                    self.assertRaises(BadBox, call, thing, [1, 2], *more)

    def test_bad_weight(self):
        for call, more in self.CALLS:
            for thing in BAD_WEIGHTS:
                with self.subTest(named(thing)):
                    self.assertRaises(BadWeight, call, BOX, thing, *more)

    def test_bad_side(self):
        for call, more in self.CALLS:
            for thing in BAD_SIDES:
                with self.subTest(named(thing)):
                    self.assertRaises(BadSide, call, BOX, [1, 2], *more, side=thing)

    def test_bad_bound(self):
        for call, more in self.WITH_BOUND:
            for thing in BAD_BOUNDS:
                with self.subTest(named(thing)):
                    with self.assertRaises(BadBound) as caught:
                        call(BOX, [1, 2], thing, *more)
                    self.assertEqual(vars(caught.exception), {"called": "BadBound"})
                    self.assertRaises(BadBound, call, BOX, [1, 2], thing, *more, side=ACROSS)

    def test_bounds_that_are_not_refused(self):
        for bound in ((1, 1), (GREAT, GREAT - 1), (GREAT, 1), (3, 2)):
            self.assertIn(0, beginnings(BOX, [1, 2], bound))
            self.assertIn(shuts(BOX, [1, 2], bound, [0]), (True, False))

    def test_order(self):
        for call, more in self.CALLS + [(beginnings, [None]), (shuts, [None, None])]:
            self.assertRaises(BadBox, call, None, [], *more, side="up")
            self.assertRaises(BadBox, call, None, [1, 2], *more)
            self.assertRaises(BadWeight, call, BOX, [0], *more, side="up")
            self.assertRaises(BadWeight, call, BOX, [], *more)
            self.assertRaises(BadSide, call, BOX, [1, 2], *more, side="up")
        self.assertRaises(BadBound, beginnings, BOX, [1, 2], (1, 2))
        self.assertRaises(BadBound, shuts, BOX, [1, 2], (1, 2), None)

    def test_nothing_handed_in_is_changed(self):
        weights = [5, 1, 3]
        for call, more in self.CALLS:
            call(BOX, weights, *more)
            self.assertEqual(weights, [5, 1, 3])
        refused = [5, 0, [3]]
        kept = copy.deepcopy(refused)
        for call, more in self.CALLS:
            self.assertRaises(BadWeight, call, BOX, refused, *more)
            self.assertEqual(refused, kept)


class Handing(unittest.TestCase):
    def test_lists_and_tuples(self):
        for call, more in Refused.CALLS:
            self.assertEqual(call(BOX, (3, 1, 2), *more), call(BOX, [3, 1, 2], *more))

    def test_side_by_its_name_only(self):
        for call, more in Refused.CALLS:
            self.assertEqual(call(BOX, [3, 1, 2], *more, side=DOWN), call(BOX, [3, 1, 2], *more))
            with self.assertRaises(TypeError):
                call(BOX, [3, 1, 2], *more, ACROSS)

    def test_by_names(self):
        self.assertEqual(best(side=ACROSS, weights=[3, 1], box=BOX), best(BOX, [3, 1], side=ACROSS))
        self.assertEqual(greedy(side=ACROSS, weights=[3, 1], box=BOX), greedy(BOX, [3, 1], side=ACROSS))
        self.assertEqual(least(side=ACROSS, weights=[3, 1], box=BOX), least(BOX, [3, 1], side=ACROSS))
        self.assertEqual(beginnings(bound=(3, 1), side=ACROSS, weights=[3, 1], box=BOX),
                         beginnings(BOX, [3, 1], (3, 1), side=ACROSS))
        self.assertIs(shuts(some=[0], bound=(1, 1), side=ACROSS, weights=[3, 1], box=BOX), True)


if __name__ == "__main__":
    unittest.main()
