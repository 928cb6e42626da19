"""Points 10 and 11: trees of slices and a best one, papers that refute a bound; point 2 for these."""

import copy
import unittest
from fractions import Fraction
from itertools import product

from calmcuts.boxes import ACROSS, DOWN, MOST_WEIGHT, box_of, shape
from calmcuts.errors import BadBound, BadBox, BadSizes, BadWeight
from calmcuts.slices import MOST_REFUTED, MOST_SLICED, best_slices, refuted, refutes, slices_worst, sliced
from plainly import all_sliced, all_trees, fractions_of, is_paper, least_sliced, pair, pairs_of, shape_of, things_in
from things import BAD, BAD_BOUNDS, BAD_WEIGHTS, GOOD, GREAT, Prickly, named

BOX = ((1, 3), (-2, 1), (7, 2), (5, 1))
SQUARE = box_of(6, 6)
BOXES = [SQUARE, box_of(1, 40), box_of(40, 1), BOX]
FEW = [list(weights) for many in (1, 2, 3) for weights in product((1, 2, 7), repeat=many)]
WEIGHTS = FEW + [[1, 1, 1, 1], [4, 3, 2, 1], [1, 7, 1, 7], [MOST_WEIGHT, 1, 1, MOST_WEIGHT]]
FIVE = [[1] * 5, [1, 2, 3, 4, 5], [9, 1, 1, 9, 3]]
SIX = [[1] * 6, [3, 1, 4, 1, 5, 9], [MOST_WEIGHT, 1] * 3]
SMALL = Fraction(1, 10 ** 90)


def worst_sliced(box, weights, tree):
    return max(shape_of(one) for one in all_sliced(fractions_of(box), weights, tree))


def chain(many, *, first):
    """A tree of so many things, each split having one of them on the one side."""
    tree = ()
    for at in range(many - 1):
        tree = (ACROSS if at % 2 else DOWN, (), tree) if first else (DOWN, tree, ())
    return tree


class Deep:
    """Trees and papers far too deep; kept in an object, for a shown tuple of that depth would stop the tests."""

    def __init__(self):
        self.things = [(), (), (), (), ()]
        for _ in range(100000):
            one, two, three, four, five = self.things
            self.things = [(DOWN, one, ()), (ACROSS, (), two), (DOWN, three, three), (0, four), ((0, five), (1, five))]


DEEP = Deep().things


class Sliced(unittest.TestCase):
    def test_one_thing(self):
        for box in GOOD + [BOX]:
            for weight in (1, 9, MOST_WEIGHT):
                self.assertEqual(sliced(box, [weight], ()), [box])
                self.assertEqual(slices_worst(box, [weight], ()), shape(box))

    def test_down(self):
        self.assertEqual(sliced(box_of(6, 4), [1, 3], ("down", (), ())),
                         [((0, 1), (0, 1), (6, 1), (1, 1)), ((0, 1), (1, 1), (6, 1), (3, 1))])
        self.assertEqual(slices_worst(box_of(6, 4), [1, 3], ("down", (), ())), (6, 1))

    def test_across(self):
        self.assertEqual(sliced(box_of(6, 4, top=1), [1, 2], ("across", (), ())),
                         [((0, 1), (1, 1), (2, 1), (4, 1)), ((2, 1), (1, 1), (4, 1), (4, 1))])
        self.assertEqual(slices_worst(box_of(6, 4), [1, 2], ("across", (), ())), (2, 1))

    def test_told_order(self):
        self.assertEqual(sliced(box_of(6, 4), [1, 1, 2], (DOWN, (ACROSS, (), ()), ())),
                         [box_of(3, 2), box_of(3, 2, left=3), box_of(6, 2, top=2)])
        self.assertEqual(sliced(box_of(6, 4), [2, 1, 1], (ACROSS, (), (DOWN, (), ()))),
                         [box_of(3, 4), box_of(3, 2, left=3), box_of(3, 2, left=3, top=2)])

    def test_all_trees(self):
        for box in BOXES:
            for weights in WEIGHTS:
                for tree in all_trees(len(weights)):
                    self.check(box, weights, tree)

    def test_five_and_six(self):
        for weights in FIVE + SIX:
            for tree in all_trees(len(weights))[::7]:
                self.check(BOX, weights, tree)

    def test_great_numbers(self):
        for box in GOOD:
            for tree in all_trees(3):
                self.check(box, [3, 1, 4], tree)

    def check(self, box, weights, tree):
        found = sliced(box, weights, tree)
        self.assertIsInstance(found, list)
        boxes = all_sliced(fractions_of(box), weights, tree)
        self.assertEqual(found, [pairs_of(one) for one in boxes])
        self.assertEqual(slices_worst(box, weights, tree), pair(max(map(shape_of, boxes))))

    def test_a_told_list_is_new(self):
        for weights, tree in (([5], ()), ([5, 1, 2], (DOWN, (), (ACROSS, (), ())))):
            found = sliced(BOX, weights, tree)
            kept = list(found)
            found.clear()
            self.assertEqual(sliced(BOX, weights, tree), kept)


class NoTree(unittest.TestCase):
    # For three things.
    THINGS = [
        (), (DOWN, (), ()), (DOWN, (DOWN, (), ()), (DOWN, (), ())), (DOWN, (), (DOWN, (), (DOWN, (), ()))),
        (DOWN,), (DOWN, ()), (DOWN, (DOWN, (), ())), (DOWN, (), (DOWN, ())), (DOWN, (), ((), ())), (DOWN, (), (), ()),
        (DOWN, (), (), (), ()), ((), (), ()), ((), DOWN, ((), DOWN, ())), ((), (DOWN, (), ())),
        (DOWN, (), [DOWN, (), ()]), [DOWN, (), (DOWN, (), ())], [], (DOWN, [], (DOWN, (), ())),
        (DOWN, (), (DOWN, (), [])), (DOWN, (), (DOWN, [], ())), ("up", (), (DOWN, (), ())), (DOWN, (), ("", (), ())),
        (DOWN, (), ("Down", (), ())), (DOWN, (), ("down ", (), ())), ("DOWN", (), (DOWN, (), ())),
        (b"down", (), (DOWN, (), ())), (None, (), (DOWN, (), ())), (0, (), (DOWN, (), ())), (True, (), (DOWN, (), ())),
        ((DOWN,), (), (DOWN, (), ())), ([DOWN], (), (DOWN, (), ())), (Prickly(), (), (DOWN, (), ())),
        (DOWN, (), Prickly()), (DOWN, Prickly(), (DOWN, (), ())), (Prickly(), Prickly(), Prickly()), (Prickly(),),
        Prickly(), (DOWN, (), None), (DOWN, None, (DOWN, (), ())), (DOWN, (), (DOWN, None, ())),
        (DOWN, (), (DOWN, (), None)), (DOWN, 1, 2), (DOWN, 1, (DOWN, 1, 1)), (DOWN, (), "ab"), (DOWN, (), ""),
        (DOWN, "", (DOWN, (), ())), (1, 2), 3, 0, 1, True, False, None, "", "down", "dow", b"", {},
        {0: DOWN, 1: (), 2: ()}, {1, 2}, object(), int, len, 1.5, range(3)]

    def test_no_tree_of_three(self):
        for thing in self.THINGS:
            with self.subTest(named(thing)):
                self.refused([1, 2, 3], thing)

    def test_what_is_no_tree_counts_for_nothing(self):
        for wrong in ((1,), (DOWN, 1, ()), (DOWN, (), 1), ("up", (), ()), None, (DOWN, (1,), ())):
            for many in range(1, 7):
                with self.subTest(wrong=wrong, many=many):
                    self.refused([1, 2, 3], (DOWN, wrong, chain(many, first=True)))
                    self.refused([1, 2, 3], (DOWN, chain(many, first=False), wrong))

    def test_trees_of_another_number(self):
        for many in range(1, 8):
            for other in range(1, 9):
                for first in (True, False):
                    tree = chain(other, first=first)
                    if many == other <= 6:
                        self.assertEqual(len(sliced(BOX, [1] * many, tree)), many)
                    else:
                        self.refused([1] * many, tree)

    def test_as_many_as_are_allowed_and_one_more(self):
        six = (DOWN, chain(3, first=True), chain(3, first=False))
        seven = (DOWN, chain(3, first=True), chain(4, first=False))
        self.assertEqual((things_in(six), things_in(seven)), (6, 7))
        self.assertEqual(len(sliced(BOX, [1] * 6, six)), 6)
        self.refused([1] * 7, seven)
        self.refused([1] * 12, (DOWN, six, six))
        self.refused([1] * 7, None)
        self.refused([1] * 12, six)

    def test_far_too_deep(self):
        for at, thing in enumerate(DEEP):
            for many in (1, 2, 6, 7, 12):
                with self.subTest(at=at, many=many):
                    self.refused([1] * many, thing)
                    self.refused([1] * many, (DOWN, (), thing))
                    self.refused([1] * many, (DOWN, None, thing))
                    self.refused([1] * many, (DOWN, thing, None))

    def refused(self, weights, tree):
        for call in (sliced, slices_worst):
            with self.assertRaises(BadSizes) as caught:
                call(BOX, weights, tree)
            self.assertEqual(vars(caught.exception), {"called": "BadSizes"})


class BestSlices(unittest.TestCase):
    def test_plain(self):
        self.assertEqual(best_slices(BOX, [7]), ())
        self.assertEqual(best_slices(box_of(8, 4), [1, 1]), (ACROSS, (), ()))
        self.assertEqual(best_slices(box_of(4, 8), [1, 1]), (DOWN, (), ()))
        tree = best_slices(box_of(4, 4), [1, 1, 1, 1])
        self.assertEqual(slices_worst(box_of(4, 4), [1, 1, 1, 1], tree), (1, 1))

    def test_all_trees(self):
        for box in BOXES:
            for weights in WEIGHTS:
                self.check(box, weights)

    def test_five_and_six(self):
        for weights in FIVE + SIX:
            self.check(BOX, weights)

    def test_great_numbers(self):
        for box in GOOD:
            self.check(box, [3, 1, 4, 1])

    def check(self, box, weights):
        tree = best_slices(box, weights)
        self.assertEqual(slices_worst(box, weights, tree), pair(least_sliced(fractions_of(box), weights)))
        self.assertEqual(best_slices(box, tuple(weights)), tree)


def bounds_for(box, weights):
    """Just the least worst shape, just more and just less, and some others, as far as they are bounds."""
    told = least_sliced(fractions_of(box), weights)
    found = [told + by for by in (-SMALL, 0, SMALL)] + [Fraction(1), Fraction(3, 2), Fraction(2), Fraction(9)]
    return [bound for bound in found if bound >= 1]


class Refuted(unittest.TestCase):
    def test_one_thing(self):
        self.assertEqual(refuted(box_of(6, 4), [1], (3, 2)), ())
        self.assertEqual(refuted(box_of(6, 4), [1], (1, 1)), ())
        self.assertIsNone(refuted(box_of(6, 4), [1], (2, 1)))
        self.assertIsNone(refuted(box_of(6, 4), [1], pair(Fraction(3, 2) + SMALL)))

    def test_two_things(self):
        # A square in two: each half, down and across, has the shape 2.
        self.assertIsNone(refuted(SQUARE, [1, 1], (9, 4)))
        paper = refuted(SQUARE, [1, 1], (2, 1))
        self.assertIn(paper, [((one, ()), (two, ())) for one in (0, 1) for two in (0, 1)])
        # 4 by 2 in 1 and 3: down they are 4 by 1/2 and 4 by 3/2, across 1 by 2 and 3 by 2.
        self.assertEqual(refuted(box_of(4, 2), [1, 3], (2, 1)), ((0, ()), (0, ())))
        self.assertEqual(refuted(box_of(4, 2), [3, 1], (2, 1))[1], (1, ()))
        self.assertIsNone(refuted(box_of(4, 2), [1, 3], (5, 2)))

    def test_all_tried(self):
        for box in BOXES:
            for weights in WEIGHTS:
                for bound in bounds_for(box, weights):
                    self.check(box, weights, bound)

    def test_five(self):
        for weights in FIVE:
            for bound in bounds_for(BOX, weights):
                self.check(BOX, weights, bound)

    def test_great_numbers(self):
        for box in GOOD:
            for bound in bounds_for(box, [3, 1, 4]):
                self.check(box, [3, 1, 4], bound)

    def check(self, box, weights, bound):
        paper = refuted(box, weights, pair(bound))
        below = least_sliced(fractions_of(box), weights) < bound
        self.assertIs(paper is None, below)
        self.assertEqual(refuted(box, tuple(weights), pair(bound)), paper)
        if not below:
            self.assertIsInstance(paper, tuple)
            self.assertTrue(is_paper(fractions_of(box), weights, bound, paper))
            self.assertIs(refutes(box, weights, pair(bound), paper), True)

    def test_as_many_as_are_allowed_and_one_more(self):
        self.assertIsNotNone(refuted(BOX, [1] * 5, (1, 1)))
        for many in (6, 7, 12):
            self.assertRaises(BadSizes, refuted, BOX, [1] * many, (1, 1))
            self.assertRaises(BadSizes, refutes, BOX, [1] * many, (1, 1), ())


def all_papers(many):
    """All papers by their form of up to three things, whatever they refute."""
    if many == 1:
        return [()]
    choices = [[(0, paper) for paper in all_papers(at)] + [(1, paper) for paper in all_papers(many - at)]
               for at in range(1, many)] * 2
    return list(product(*choices))


def replaced(paper, other):
    """All that a paper may become where one thing in it is another one, or put to it, or left out."""
    found = [other]
    if isinstance(paper, tuple):
        for at, part in enumerate(paper):
            found += [paper[:at] + (new,) + paper[at + 1:] for new in replaced(part, other)]
            found.append(paper[:at] + paper[at + 1:])
        found += [paper + (other,), (other,) + paper]
    return found


class Refutes(unittest.TestCase):
    def test_one_thing(self):
        self.assertIs(refutes(box_of(6, 4), [1], (3, 2), ()), True)
        self.assertIs(refutes(box_of(6, 4), [1], (2, 1), ()), False)
        self.assertIs(refutes(box_of(6, 4), [1], pair(Fraction(3, 2) + SMALL), ()), False)
        for thing in [((),), (0, ()), (1, ()), ((0, ()), (0, ()))]:
            self.assertIs(refutes(box_of(6, 4), [1], (1, 1), thing), False)

    def test_down_comes_first(self):
        # 4 by 2 in 1 and 3: down the first is 4 by 1/2, the second 4 by 3/2; across 1 by 2 and 3 by 2.
        for bound, good in [((8, 3), []), ((2, 1), [(0, 0), (1, 0)]), ((3, 2), [(0, 0), (1, 0), (0, 1), (1, 1)])]:
            for down, across in product((0, 1), repeat=2):
                paper = ((down, ()), (across, ()))
                self.assertIs(refutes(box_of(4, 2), [1, 3], bound, paper), (down, across) in good)

    def test_all_papers(self):
        for box in (SQUARE, BOX):
            for weights in ([5], [1, 1], [1, 7], [7, 2], [1, 1, 1], [1, 2, 7], [7, 1, 1]):
                for bound in bounds_for(box, weights):
                    self.check_all(box, weights, bound)

    def check_all(self, box, weights, bound):
        papers = all_papers(len(weights))
        told = [refutes(box, weights, pair(bound), paper) for paper in papers]
        self.assertEqual(told, [is_paper(fractions_of(box), weights, bound, paper) for paper in papers])
        self.assertIs(any(told), least_sliced(fractions_of(box), weights) >= bound)

    def test_places_rise(self):
        # In a square 4, 1 and 1: cut off behind the 4 it is 6 by 4, cut off ahead of the last 1 that is 6 by 1.
        self.assertIs(refutes(SQUARE, [4, 1, 1], (3, 2), ((0, ()), (1, ()), (0, ()), (1, ()))), True)
        self.assertIs(refutes(SQUARE, [4, 1, 1], (3, 2), ((1, ()), (0, ()), (1, ()), (0, ()))), False)
        self.assertIs(refutes(SQUARE, [4, 1, 1], (3, 2), ((0, ()), (0, ()), (1, ()), (1, ()))), False)

    def test_papers_of_another_form(self):
        others = [None, True, False, 0, 1, 2, -1, 1.0, 0.0, "", "0", (), (0,), (0, ()), (1, ()), [], [0, ()], {},
                  {0: ()}, object(), int, Prickly(), GREAT, ((), ()), (0, None), (None, ()), (0, []), ((0, ()), (1, ()))]
        for weights, bound in (([5], (1, 1)), ([1, 2], (1, 1)), ([1, 2, 3], (3, 2))):
            paper = refuted(BOX, weights, bound)
            self.assertIs(refutes(BOX, weights, bound, paper), True)
            for other in others:
                for thing in replaced(paper, other):
                    if not by_form(thing, len(weights)):
                        with self.subTest(named(thing)):
                            self.assertIs(refutes(BOX, weights, bound, thing), False)

    def test_true_and_false_are_no_numbers(self):
        self.assertIs(refutes(SQUARE, [1, 1], (2, 1), ((0, ()), (1, ()))), True)
        self.assertIs(refutes(SQUARE, [1, 1], (2, 1), ((False, ()), (1, ()))), False)
        self.assertIs(refutes(SQUARE, [1, 1], (2, 1), ((0, ()), (True, ()))), False)

    def test_lists_are_no_papers(self):
        self.assertIs(refutes(SQUARE, [1], (1, 1), []), False)
        self.assertIs(refutes(SQUARE, [1, 1], (2, 1), [(0, ()), (1, ())]), False)
        self.assertIs(refutes(SQUARE, [1, 1], (2, 1), ([0, ()], (1, ()))), False)
        self.assertIs(refutes(SQUARE, [1, 1], (2, 1), ((0, []), (1, ()))), False)

    def test_a_paper_for_less_or_more_things(self):
        for many in range(1, 6):
            for other in range(1, 6):
                paper = refuted(BOX, [1] * other, (1, 1))
                self.assertIs(refutes(BOX, [1] * many, (1, 1), paper), many == other)

    def test_a_paper_for_another_bound(self):
        weights = [4, 3, 2, 1]
        bound = least_sliced(fractions_of(BOX), weights)
        paper = refuted(BOX, weights, pair(bound))
        self.assertIs(refutes(BOX, weights, pair(bound), paper), True)
        self.assertIs(refutes(BOX, weights, (1, 1), paper), True)
        self.assertIs(refutes(BOX, weights, pair(bound + SMALL), paper), False)

    def test_far_too_deep(self):
        for at, thing in enumerate(DEEP):
            for many in (1, 2, 3, 5):
                with self.subTest(at=at, many=many):
                    self.assertIs(refutes(BOX, [1] * many, (1, 1), thing), False)
                    if many > 1:
                        self.assertIs(refutes(BOX, [1] * many, (1, 1), (thing,) * (2 * many - 2)), False)
                        self.assertIs(refutes(BOX, [1] * many, (1, 1), ((0, thing),) * (2 * many - 2)), False)


def by_form(thing, many):
    """Whether a thing has a paper's form, each 0 and 1 being a number."""
    if not isinstance(thing, tuple) or len(thing) != 2 * many - 2:
        return False
    for at, part in enumerate(thing):
        if not isinstance(part, tuple) or len(part) != 2 or not isinstance(part[0], int) or isinstance(part[0], bool):
            return False
        place = at % (many - 1) + 1
        if part[0] not in (0, 1) or not by_form(part[1], place if part[0] == 0 else many - place):
            return False
    return True


class Refused(unittest.TestCase):
    TREE = (DOWN, (), (ACROSS, (), ()))
    CALLS = [(sliced, [TREE]), (slices_worst, [TREE]), (best_slices, []), (refuted, [(2, 1)]), (refutes, [(2, 1), ()])]
    WITH_BOUND = [(refuted, []), (refutes, [()]), (refutes, [None])]

    def test_bad_box(self):
        for call, more in self.CALLS:
            for thing in BAD:
                with self.subTest(named(thing)):
                    self.assertRaises(BadBox, call, thing, [1, 2, 3], *more)

    def test_bad_weight(self):
        for call, more in self.CALLS:
            for thing in BAD_WEIGHTS:
                with self.subTest(named(thing)):
                    self.assertRaises(BadWeight, call, BOX, thing, *more)

    def test_bad_bound(self):
        for call, more in self.WITH_BOUND:
            for thing in BAD_BOUNDS:
                with self.subTest(named(thing)):
                    self.assertRaises(BadBound, call, BOX, [1, 2], thing, *more)

    def test_more_things_than_allowed(self):
        for many in (7, 8, 12):
            self.assertRaises(BadSizes, best_slices, BOX, [1] * many)
            self.assertRaises(BadWeight, best_slices, BOX, [1] * 13)

    def test_order(self):
        wrong = [(sliced, [None]), (slices_worst, [()]), (refuted, [None]), (refutes, [None, None])]
        for call, more in self.CALLS + wrong:
            self.assertRaises(BadBox, call, None, [], *more)
            self.assertRaises(BadBox, call, None, [1] * 7, *more)
            self.assertRaises(BadWeight, call, BOX, [], *more)
            self.assertRaises(BadWeight, call, BOX, [0] * 7, *more)
            self.assertRaises(BadWeight, call, BOX, [1] * 13, *more)
            self.assertRaises(BadSizes, call, BOX, [1] * 7, *more)
        for bound in ((1, 2), None, (2, 2)):
            self.assertRaises(BadSizes, refuted, BOX, [1] * 6, bound)
            self.assertRaises(BadSizes, refutes, BOX, [1] * 6, bound, None)
            self.assertRaises(BadBound, refuted, BOX, [1] * 5, bound)
            self.assertRaises(BadBound, refutes, BOX, [1] * 5, bound, None)

    def test_nothing_handed_in_is_changed(self):
        weights = [5, 1, 3]
        for call, more in self.CALLS:
            call(BOX, weights, *more)
            self.assertEqual(weights, [5, 1, 3])
        refused = [5, 0, [3]]
        kept = copy.deepcopy(refused)
        for call, more in self.CALLS:
            self.assertRaises(BadWeight, call, BOX, refused, *more)
            self.assertEqual(refused, kept)

    def test_by_names(self):
        self.assertEqual(sliced(tree=self.TREE, weights=[3, 1, 2], box=BOX), sliced(BOX, [3, 1, 2], self.TREE))
        told = slices_worst(BOX, [3, 1, 2], self.TREE)
        self.assertEqual(slices_worst(tree=self.TREE, weights=(3, 1, 2), box=BOX), told)
        self.assertEqual(best_slices(weights=[3, 1, 2], box=BOX), best_slices(BOX, [3, 1, 2]))
        paper = refuted(bound=(1, 1), weights=[3, 1, 2], box=BOX)
        self.assertIs(refutes(paper=paper, bound=(1, 1), weights=(3, 1, 2), box=BOX), True)


class Values(unittest.TestCase):
    def test_values(self):
        self.assertEqual((MOST_SLICED, MOST_REFUTED), (6, 5))


if __name__ == "__main__":
    unittest.main()
