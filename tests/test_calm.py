"""Points 12 to 14: calm sizes, the numbers that show a cost to be the least, sway; points 2, 4 and 7 to 9 for these."""

import copy
import unittest
from fractions import Fraction
from itertools import combinations, product

from calmcuts.best import best, greedy, least
from calmcuts.boxes import ACROSS, DOWN, MOST_WEIGHT, box_of, shape
from calmcuts.calm import calm, numbers, shown, sway
from calmcuts.errors import BadBound, BadBox, BadSide, BadSizes, BadWeight
from calmcuts.rows import laid, row_shape, worst
from plainly import all_sizes, calm_of_all, ends_of, is_shown, numbers_of_all, pair, shapes_of_rows
from things import BAD, BAD_BOUNDS, BAD_KEPT, BAD_SIDES, BAD_WEIGHTS, GOOD, GREAT, Prickly, named

SIDES = (DOWN, ACROSS)
BOX = ((1, 3), (-2, 1), (7, 2), (5, 1))
SQUARE = box_of(6, 6)
BOXES = [box_of(6, 4), SQUARE, box_of(1, 40), BOX]
WEIGHTS = ([list(weights) for many in (1, 2, 3) for weights in product((1, 2, 5), repeat=many)] +
           [[1, 1, 1, 1], [5, 1, 1, 2], [400000, 1, 1, 400000], [1, 2, 3, 4, 5], [7, 1, 1, 7, 1, 1]])
TWELVE = [[MOST_WEIGHT] * 12, list(range(1, 13)), [3, 1, 4, 1, 5, 9, 2, 6, 5, 3, 5, 8]]
SMALL = Fraction(1, 10 ** 90)


def bounds_for(shapes):
    """Some rows' shapes, just more, just less, and ones that all rows and that none keep."""
    told = sorted(set(shapes.values()))
    near = [one + by for one in told[::1 + len(told) // 4] + told[-1:] for by in (-SMALL, 0, SMALL)]
    return [one for one in near + [Fraction(1), Fraction(GREAT)] if one >= 1]


def all_pairs(many):
    return [(first, size) for first in range(many) for size in range(1, many - first + 1)]


def some_kept(many):
    """Lists of kept rows: none, all, those of some sizes, ones that overlap, and one out of order."""
    pairs = all_pairs(many)
    sizes = all_sizes(many)
    of_sizes = [[(first, end - first) for first, end in ends_of(some)] for some in sizes[::1 + len(sizes) // 5]]
    return [[], pairs, pairs[::-2], pairs[1::3], [pairs[-1]]] + of_sizes + [rows[::-1] + pairs[:1]
                                                                            for rows in of_sizes if rows[0] != pairs[0]]


class Calm(unittest.TestCase):
    def test_plain(self):
        # Four equal things in a square: rows of one have the shape 4, of two 1, of three 9/4, of four 4.
        box, weights = box_of(4, 4), [1, 1, 1, 1]
        self.assertEqual(calm(box, weights, (1, 1), []), ((2, 2), 2))
        self.assertEqual(calm(box, weights, (4, 1), []), ((4,), 1))
        self.assertEqual(calm(box, weights, (4, 1), [(0, 1)]), ((1, 3), 1))
        self.assertEqual(calm(box, weights, (4, 1), [(0, 1), (1, 1), (2, 2)]), ((1, 1, 2), 0))
        self.assertEqual(calm(box, weights, (4, 1), [(0, 1), (1, 1), (2, 2)], side=ACROSS), ((1, 1, 2), 0))
        self.assertEqual(calm(box, weights, (3, 1), [(0, 1), (1, 1), (2, 2)]), ((2, 2), 1))
        self.assertEqual(calm(box, weights, (3, 1), [(0, 4)]), ((2, 2), 2))

    def test_what_is_told(self):
        sizes, cost = told = calm(SQUARE, [1, 2], (9, 1), [])
        self.assertIsInstance(told, tuple)
        self.assertIsInstance(sizes, tuple)
        self.assertIs(type(cost), int)

    def test_a_bound_that_is_just_the_worst_shape(self):
        for box in BOXES:
            for weights in WEIGHTS:
                for side in SIDES:
                    self.check_around_the_least(box, weights, side)

    def check_around_the_least(self, box, weights, side):
        bound = Fraction(*least(box, weights, side=side))
        sizes, cost = calm(box, weights, pair(bound), [], side=side)
        self.assertEqual(worst(box, weights, sizes, side=side), pair(bound))
        self.assertEqual(cost, len(sizes))
        self.assertIsNotNone(calm(box, weights, pair(bound + SMALL), [], side=side))
        if bound > 1:
            kept = all_pairs(len(weights))
            self.assertIsNone(calm(box, weights, pair(max(bound - SMALL, Fraction(1))), kept, side=side))

    def test_equal_costs(self):
        # Three equal things in a square have the shape 3 whatever the sizes but those with rows of two, where it's 4/3.
        weights = [1, 1, 1]
        self.assertEqual(calm(SQUARE, weights, (3, 1), [(0, 3), (0, 1), (1, 2), (0, 2), (2, 1)]), ((1, 2), 0))
        self.assertEqual(calm(SQUARE, weights, (3, 1), [(0, 3), (0, 2), (2, 1)]), ((2, 1), 0))
        self.assertEqual(calm(SQUARE, weights, (3, 1), [(0, 1), (1, 1), (2, 1), (0, 3)]), ((1, 1, 1), 0))
        self.assertEqual(calm(SQUARE, weights, (3, 1), [(1, 1), (2, 1), (0, 2)]), ((2, 1), 0))
        self.assertEqual(calm(SQUARE, weights, (3, 1), [(1, 1), (2, 1)]), ((1, 1, 1), 1))
        self.assertEqual(calm(SQUARE, weights, (3, 1), [(1, 1), (0, 1)]), ((1, 1, 1), 1))
        self.assertEqual(calm(SQUARE, weights, (3, 1), [(2, 1)]), ((2, 1), 1))
        self.assertEqual(calm(SQUARE, weights, (3, 1), [(1, 2)]), ((1, 2), 1))

    def test_fewest_cut_anew_and_not_fewest_rows(self):
        kept = [(place, 1) for place in range(3)]
        self.assertEqual(calm(SQUARE, [1, 1, 1], (3, 1), kept), ((1, 1, 1), 0))
        self.assertEqual(calm(SQUARE, [1, 1, 1], (3, 1), []), ((3,), 1))

    def test_kept_rows_over_the_bound_are_let_go(self):
        self.assertEqual(row_shape(SQUARE, [1, 1, 4], 0, 1), (6, 1))
        self.assertEqual(calm(SQUARE, [1, 1, 4], (5, 1), [(0, 1), (1, 2)]), ((2, 1), 2))
        self.assertEqual(calm(SQUARE, [1, 1, 4], (6, 1), [(0, 1), (1, 2)]), ((1, 2), 0))
        self.assertEqual(calm(SQUARE, [1, 1, 4], (5, 1), [(0, 1), (1, 1), (2, 1)]), ((2, 1), 1))

    def test_one_weight(self):
        for box in GOOD + [BOX]:
            for side in SIDES:
                bound = shape(box)
                self.assertEqual(calm(box, [5], bound, [], side=side), ((1,), 1))
                self.assertEqual(calm(box, [5], bound, [(0, 1)], side=side), ((1,), 0))
                if bound != (1, 1):
                    for kept in ([], [(0, 1)]):
                        self.assertIsNone(calm(box, [5], (1, 1), kept, side=side))
                        self.assertEqual(numbers(box, [5], (1, 1), kept, side=side), [0, None])

    def test_all_tried(self):
        for box in BOXES:
            for weights in WEIGHTS:
                for side in SIDES:
                    self.check_all(box, weights, side)

    def check_all(self, box, weights, side):
        shapes = shapes_of_rows(box, weights, side)
        for bound in bounds_for(shapes):
            for kept in some_kept(len(weights)):
                self.check(box, weights, side, shapes, bound, kept)

    def check(self, box, weights, side, shapes, bound, kept):
        found = calm(box, weights, pair(bound), kept, side=side)
        self.assertEqual(found, calm_of_all(shapes, len(weights), bound, kept))
        told = numbers(box, weights, pair(bound), kept, side=side)
        self.assertIs(type(told), list)
        self.assertEqual(told, numbers_of_all(shapes, len(weights), bound, kept))
        self.assertEqual(told[-1], None if found is None else found[1])
        self.assertIs(shown(box, weights, pair(bound), kept, told, side=side), True)

    def test_all_kept_rows_of_three_things(self):
        for weights in ([1, 1, 1], [1, 2, 5], [5, 1, 1]):
            shapes = shapes_of_rows(SQUARE, weights, DOWN)
            pairs = all_pairs(3)
            for bound in bounds_for(shapes):
                for many in range(len(pairs) + 1):
                    for kept in combinations(pairs, many):
                        self.check(SQUARE, weights, DOWN, shapes, bound, list(kept))

    def test_twelve(self):
        for weights in TWELVE:
            for side in SIDES:
                shapes = shapes_of_rows(BOX, weights, side)
                middle = Fraction(*least(BOX, weights, side=side)) * Fraction(3, 2)
                for kept in ([], [(0, 3), (3, 3), (6, 3), (9, 3)], all_pairs(12), [(1, 2), (5, 4), (2, 2), (9, 3)]):
                    self.assertEqual(calm(BOX, weights, pair(middle), kept, side=side),
                                     calm_of_all(shapes, 12, middle, kept))
                    told = numbers(BOX, weights, pair(middle), kept, side=side)
                    self.assertEqual(told[-1], calm(BOX, weights, pair(middle), kept, side=side)[1])
                    self.assertIs(shown(BOX, weights, pair(middle), kept, told, side=side), True)

    def test_great_numbers(self):
        for box in GOOD:
            for side in SIDES:
                shapes = shapes_of_rows(box, [3, 1, 4], side)
                for bound in (max(shapes.values()), min(shapes.values()), Fraction(1), Fraction(GREAT)):
                    self.check(box, [3, 1, 4], side, shapes, bound, [(0, 1)])

    def test_the_order_of_kept_rows_does_not_matter(self):
        kept = [(0, 1), (1, 2), (0, 2), (2, 1), (3, 1)]
        for call in (calm, numbers):
            self.assertEqual(call(SQUARE, [1, 1, 1, 2], (4, 1), kept[::-1]), call(SQUARE, [1, 1, 1, 2], (4, 1), kept))


class Alike(unittest.TestCase):
    """What turning, making greater, moving and greater weights leave as it is."""

    def asked(self, box, weights, side):
        bound = (5, 2)
        kept = [(0, 2), (2, 1)]
        return [best(box, weights, side=side), greedy(box, weights, side=side), least(box, weights, side=side),
                calm(box, weights, bound, kept, side=side), numbers(box, weights, bound, kept, side=side)]

    def test_turned_about_with_the_side(self):
        for left, top, wide, high in BOXES + GOOD:
            for weights in ([1, 2, 3], [5, 1, 1, 2], [1, 1, 1, 1, 9]):
                for side, other_side in (SIDES, SIDES[::-1]):
                    self.assertEqual(self.asked((left, top, wide, high), weights, side),
                                     self.asked((top, left, high, wide), weights, other_side))

    def test_moved_and_made_greater(self):
        for weights in ([1, 2, 3], [5, 1, 1, 2]):
            for side in SIDES:
                told = self.asked(box_of(6, 4), weights, side)
                self.assertEqual(self.asked(box_of(6, 4, left=-9, top=GREAT), weights, side), told)
                self.assertEqual(self.asked(box_of(6 * 10 ** 150, 4 * 10 ** 150), weights, side), told)
                self.assertEqual(self.asked(((1, 3), (0, 1), (2, 7), (4, 21)), weights, side), told)

    def test_greater_weights(self):
        for weights in ([1, 2, 3], [5, 1, 1, 2]):
            for side in SIDES:
                for times in (2, 3, 80000):
                    self.assertEqual(self.asked(BOX, [weight * times for weight in weights], side),
                                     self.asked(BOX, weights, side))


class Shown(unittest.TestCase):
    def test_plain(self):
        # Two halves of a square: each row has the shape 2.
        self.assertIs(shown(SQUARE, [1, 1], (2, 1), [], [0, 1, 1]), True)
        self.assertIs(shown(SQUARE, [1, 1], (2, 1), [], [0, 0, 0]), True)
        self.assertIs(shown(SQUARE, [1, 1], (2, 1), [], [0, -GREAT, -GREAT]), True)
        self.assertIs(shown(SQUARE, [1, 1], (2, 1), [], [0, 1, 2]), False)
        self.assertIs(shown(SQUARE, [1, 1], (2, 1), [], [0, 2, 1]), False)
        self.assertIs(shown(SQUARE, [1, 1], (2, 1), [], [0, -1, 1]), False)
        self.assertIs(shown(SQUARE, [1, 1], (2, 1), [], [0, None, 1]), False)
        self.assertIs(shown(SQUARE, [1, 1], (2, 1), [], [0, 1, None]), False)
        self.assertIs(shown(SQUARE, [1, 1], (2, 1), [], [1, 1, 1]), False)
        self.assertIs(shown(SQUARE, [1, 1], (2, 1), [], [-1, 0, 0]), False)
        self.assertIs(shown(SQUARE, [1, 1], (2, 1), [], [None, 1, 1]), False)
        self.assertIs(shown(SQUARE, [1, 1], (2, 1), [], [None, None, None]), False)

    def test_kept_rows_cost_nothing(self):
        self.assertIs(shown(SQUARE, [1, 1], (2, 1), [(0, 2)], [0, 1, 1]), False)
        self.assertIs(shown(SQUARE, [1, 1], (2, 1), [(0, 2)], [0, 1, 0]), True)
        self.assertIs(shown(SQUARE, [1, 1], (2, 1), [(1, 1)], [0, 1, 1]), True)
        self.assertIs(shown(SQUARE, [1, 1], (2, 1), [(1, 1)], [0, 0, 1]), False)
        self.assertIs(shown(SQUARE, [1, 1], (2, 1), [(0, 1)], [0, 1, 1]), False)

    def test_below_all(self):
        # No row is within the bound, and so nothing is asked of the numbers but the first.
        for told in ([0, None, None], [0, 5, None], [0, None, GREAT], [0, -3, 7]):
            self.assertIs(shown(SQUARE, [1, 1], (1, 1), [(0, 2)], told), True)
        self.assertIs(shown(SQUARE, [1, 1], (1, 1), [], [1, None, None]), False)

    def test_a_number_that_nothing_leads_to(self):
        # 4 equal things in a square by 1: only rows of two are within it.
        weights = [1, 1, 1, 1]
        self.assertEqual(numbers(SQUARE, weights, (1, 1), []), [0, None, 1, None, 2])
        for told, is_one in (([0, 7, 1, None, 2], False), ([0, 7, 1, 8, 2], True), ([0, 7, 1, 9, 2], False),
                             ([0, None, 1, -5, 2], True), ([0, None, 1, None, 3], False)):
            self.assertIs(shown(SQUARE, weights, (1, 1), [], told), is_one)

    def test_lists_of_other_lengths(self):
        for told in ([], [0], [0, 1], [0, 1, 1, 1], [0, 1, 1, None], [0, 0, 0, 0], [0] * 14, [0] * 10000, [None] * 4):
            for bound in ((1, 1), (2, 1)):
                self.assertIs(shown(SQUARE, [1, 1], bound, [], told), False)
        self.assertIs(shown(SQUARE, [1], (1, 1), [], [0]), False)

    def test_all_lists(self):
        for weights in ([4], [1, 1], [1, 3], [1, 1, 1], [5, 1, 2]):
            shapes = shapes_of_rows(SQUARE, weights, ACROSS)
            many = len(weights)
            for bound in bounds_for(shapes):
                for kept in some_kept(many)[1::3] + [[]]:
                    for told in product((None, -1, 0, 1, 2), repeat=many + 1):
                        self.assertIs(shown(SQUARE, weights, pair(bound), kept, list(told), side=ACROSS),
                                      is_shown(shapes, many, bound, kept, told))

    def test_the_last_number_is_no_more_than_any_sizes_cost(self):
        for weights in ([1, 1], [1, 1, 1], [5, 1, 2]):
            shapes = shapes_of_rows(SQUARE, weights, DOWN)
            for bound in bounds_for(shapes):
                found = calm(SQUARE, weights, pair(bound), [(0, 1)])
                for told in product((None, 0, 1, 2, 3), repeat=len(weights) + 1):
                    if found is not None and shown(SQUARE, weights, pair(bound), [(0, 1)], list(told)):
                        self.assertLessEqual(told[-1], found[1])

    def test_told_lists_a_little_changed(self):
        for weights in WEIGHTS:
            shapes = shapes_of_rows(BOX, weights, DOWN)
            for bound in bounds_for(shapes):
                for kept in some_kept(len(weights))[:4]:
                    self.check_changed(weights, shapes, bound, kept)

    def check_changed(self, weights, shapes, bound, kept):
        many = len(weights)
        told = numbers(BOX, weights, pair(bound), kept)
        changed = [told[:-1], told[1:], told + [0], told + [None], [0] + told]
        for place, number in enumerate(told):
            others = (0, 1, None) if number is None else (number + 1, number - 1, None)
            changed += [told[:place] + [other] + told[place + 1:] for other in others]
        for other in changed:
            self.assertIs(shown(BOX, weights, pair(bound), kept, other),
                          is_shown(shapes, many, bound, kept, other))

    def test_no_list_of_numbers(self):
        things = [None, True, False, 0, 1, "", "011", b"011", (0, 1, 1), (), {0: 0}, {0, 1}, range(3), object(), int,
                  Prickly(), [False, 1, 1], [0, True, 1], [0, 1, True], [0, 1, False], [0.0, 1, 1], [0, 1.0, 1],
                  ["0", 1, 1], [0, 1, "1"], [[0], 1, 1], [(0,), 1, 1], [Prickly(), 1, 1], [0, Prickly(), 1],
                  [0, 1, Prickly()], [False, False, False], [0, 0, Prickly()]]
        for thing in things:
            for bound in ((1, 1), (2, 1)):
                with self.subTest(named(thing)):
                    self.assertIs(shown(SQUARE, [1, 1], bound, [], thing), False)


class Sway(unittest.TestCase):
    def test_plain(self):
        self.assertEqual(sway([1], [1]), (0, 1))
        self.assertEqual(sway([3, 1, 4], [3, 1, 4]), (0, 1))
        self.assertEqual(sway([1, 2], [2, 1]), (2, 3))
        self.assertEqual(sway([1, 1], [2, 2]), (1, 2))
        self.assertEqual(sway([2, 2], [1, 1]), (1, 2))
        self.assertEqual(sway([3, 1], [1, 4]), (1, 1))
        self.assertEqual(sway([9, 1], [1, 9]), (8, 5))
        self.assertEqual(sway([1], [MOST_WEIGHT]), (MOST_WEIGHT - 1, MOST_WEIGHT))
        self.assertEqual(sway([MOST_WEIGHT] * 12, [1] * 12), (MOST_WEIGHT - 1, MOST_WEIGHT))

    def test_the_same_either_way(self):
        for one in product((1, 2, 7), repeat=3):
            for other in product((1, 3, 7), repeat=3):
                told = sway(list(one), list(other))
                self.assertEqual(told, sway(list(other), list(one)))
                self.assertEqual(told, pair(Fraction(sum(abs(a - b) for a, b in zip(one, other)),
                                                     max(sum(one), sum(other)))))
                self.assertEqual(told, sway([5 * weight for weight in one], [5 * weight for weight in other]))

    def test_lists_and_tuples_and_names(self):
        self.assertEqual(sway((1, 2), [2, 1]), (2, 3))
        self.assertEqual(sway(others=(2, 2), weights=[1, 1]), (1, 2))

    def test_bad_weight(self):
        for thing in BAD_WEIGHTS:
            with self.subTest(named(thing)):
                self.assertRaises(BadWeight, sway, thing, [1])
                self.assertRaises(BadWeight, sway, [1], thing)
                self.assertRaises(BadWeight, sway, thing, thing)

    def test_unlike_counts(self):
        for one, other in (([1], [1, 1]), ([1, 2, 3], [1, 2]), ([1] * 12, [1] * 11), ([2], (1, 1))):
            for pair_told in ((one, other), (other, one)):
                with self.assertRaises(BadWeight) as caught:
                    sway(*pair_told)
                self.assertEqual(vars(caught.exception), {"called": "BadWeight"})

    def test_how_far_edges_go(self):
        box = box_of(30, 20)
        pairs = list(product([[3, 1, 4], [1, 1, 1], [9, 1, 1], [2, 2, 5]], repeat=2))
        pairs.append(([5, 9, 2, 6, 5, 3], [6, 1, 2, 9, 5, 5]))
        for one, other in pairs:
            for sizes in all_sizes(len(one)):
                for side in SIDES:
                    self.check_edges(box, one, other, sizes, side)

    def check_edges(self, box, one, other, sizes, side):
        ahead = laid(box, one, sizes, side=side)
        behind = laid(box, other, sizes, side=side)
        by_side, along = (1, 0) if side == DOWN else (0, 1)
        for first, end in ends_of(sizes):
            moved = Fraction(*ahead[first][by_side]) - Fraction(*behind[first][by_side])
            self.assertLessEqual(abs(moved), Fraction(*sway(one, other)) * Fraction(*box[2 + by_side]))
            within = Fraction(*sway(one[first:end], other[first:end])) * Fraction(*box[2 + along])
            for place in range(first, end):
                moved = Fraction(*ahead[place][along]) - Fraction(*behind[place][along])
                self.assertLessEqual(abs(moved), within)


class Refused(unittest.TestCase):
    CALLS = [(calm, [(2, 1), []]), (numbers, [(2, 1), []]), (shown, [(2, 1), [], [0, 1, 1, 1]]),
             (shown, [(2, 1), [], None])]

    def test_bad_box(self):
        for call, more in self.CALLS:
            for thing in BAD:
                with self.subTest(named(thing)):
                    self.assertRaises(BadBox, call, thing, [1, 2, 3], *more)

    def test_bad_weight(self):
        for call, more in self.CALLS:
            for thing in BAD_WEIGHTS:
                with self.subTest(named(thing)):
                    self.assertRaises(BadWeight, call, BOX, thing, *more)

    def test_bad_side(self):
        for call, more in self.CALLS:
            for thing in BAD_SIDES:
                with self.subTest(named(thing)):
                    self.assertRaises(BadSide, call, BOX, [1, 2, 3], *more, side=thing)

    def test_bad_bound(self):
        for call, more in self.CALLS:
            for thing in BAD_BOUNDS:
                with self.subTest(named(thing)):
                    self.assertRaises(BadBound, call, BOX, [1, 2, 3], thing, *more[1:])

    def test_bad_kept_rows(self):
        for call, more in self.CALLS:
            for thing in BAD_KEPT:
                with self.subTest(named(thing)):
                    with self.assertRaises(BadSizes) as caught:
                        call(BOX, [1, 2, 3], more[0], thing, *more[2:])
                    self.assertEqual(vars(caught.exception), {"called": "BadSizes"})

    def test_kept_rows_that_are_not_refused(self):
        for kept in ([], all_pairs(3), [(2, 1), (0, 3)], [(0, 2), (1, 2)]):
            self.assertEqual(numbers(BOX, [1, 2, 3], (1, 1), kept)[0], 0)

    def test_order(self):
        for call, more in self.CALLS:
            rest = more[2:]
            self.assertRaises(BadBox, call, None, [], (1, 2), None, *rest, side="up")
            self.assertRaises(BadWeight, call, BOX, [0], (1, 2), None, *rest, side="up")
            self.assertRaises(BadSide, call, BOX, [1, 2, 3], (1, 2), None, *rest, side="up")
            self.assertRaises(BadBound, call, BOX, [1, 2, 3], (1, 2), None, *rest)
            self.assertRaises(BadSizes, call, BOX, [1, 2, 3], (2, 1), None, *rest)


class Handing(unittest.TestCase):
    def test_nothing_handed_in_is_changed(self):
        weights, kept, told = [5, 1, 3], [(2, 1), (0, 2)], [0, None, 1, 1]
        calm(BOX, weights, (9, 1), kept)
        numbers(BOX, weights, (9, 1), kept)
        shown(BOX, weights, (9, 1), kept, told)
        sway(weights, weights)
        self.assertEqual([weights, kept, told], [[5, 1, 3], [(2, 1), (0, 2)], [0, None, 1, 1]])
        refused = [(0, 1), [1, 1]]
        held = copy.deepcopy(refused)
        for call, more in Refused.CALLS:
            self.assertRaises(BadSizes, call, BOX, weights, (9, 1), refused, *more[2:])
            self.assertEqual([weights, refused], [[5, 1, 3], held])

    def test_a_told_list_is_new(self):
        found = numbers(SQUARE, [1, 2], (9, 1), [])
        held = list(found)
        found.clear()
        self.assertEqual(numbers(SQUARE, [1, 2], (9, 1), []), held)
        self.assertIs(shown(SQUARE, [1, 2], (9, 1), [], held), True)

    def test_lists_and_tuples(self):
        for call, more in Refused.CALLS:
            self.assertEqual(call(BOX, (3, 1, 2), *more), call(BOX, [3, 1, 2], *more))

    def test_side_by_its_name_only(self):
        for call, more in Refused.CALLS:
            self.assertEqual(call(BOX, [3, 1, 2], *more, side=DOWN), call(BOX, [3, 1, 2], *more))
            with self.assertRaises(TypeError):
                call(BOX, [3, 1, 2], *more, ACROSS)

    def test_by_names(self):
        for call in (calm, numbers):
            self.assertEqual(call(side=ACROSS, kept=[(0, 1)], bound=(9, 1), weights=[3, 1], box=BOX),
                             call(BOX, [3, 1], (9, 1), [(0, 1)], side=ACROSS))
        self.assertIs(shown(told=[0, 0, 0], side=ACROSS, kept=[], bound=(9, 1), weights=[3, 1], box=BOX), True)


if __name__ == "__main__":
    unittest.main()
