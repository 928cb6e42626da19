"""Points 17 to 19: deeds done as one, takings back and doings again, twins; point 2 for these."""

import copy
import unittest

from calmcuts.errors import BadDeed, BadPlace, NoName, NothingLeft, Taken
from calmcuts.house import House
from test_house import asked, some_house

DEEDS = [("put", "z", "", 0, 4), ("nest", "y", "n", 1), ("weigh", "a", 9), ("move", "m", "y", 0), ("take", "o"),
         ("side", "n", "across"), ("box", 20, 40), ("bound", (5, 3)), ("anew", "")]


class Together(unittest.TestCase):
    def test_sums_and_moves_from_the_beginning_to_the_end(self):
        house, other = some_house(), some_house()
        ahead = dict(other.boxes(), **{nest: other.box(nest) for nest in "nm"})
        told = [other.do(deed) for deed in DEEDS]
        anew, moved = house.together(DEEDS)
        self.assertEqual(anew, sum(one[0] for one in told))
        behind = dict(other.boxes(), **{nest: other.box(nest) for nest in "nmy"})
        self.assertEqual(moved, sorted(name for name in ahead if ahead[name] != behind[name]))
        self.assertTrue(house == other)
        self.assertEqual([house.steps(), other.steps()], [(2, 0), (10, 0)])

    def test_there_and_back(self):
        house = House(4, 2)
        house.put("a", "", 0, 1)
        anew, moved = house.together([("box", 5, 5), ("put", "b", "", 0, 1), ("take", "b"), ("box", 4, 2)])
        self.assertEqual((anew, moved), (1, []))
        self.assertEqual(house.steps(), (2, 0))

    def test_each_is_settled_behind_the_one_ahead(self):
        # Done one by one the rows of one are over the bound for a while; told at the end alone they would have stayed.
        house = House(6, 6, bound=(3, 1))
        house.together([("put", name, "", at, 1) for at, name in enumerate("abc")])
        self.assertEqual(house.rows(""), [["a"], ["b"], ["c"]])
        self.assertEqual(house.together([("side", "", "down"), ("bound", (3, 1))]), (1, ["a", "b", "c"]))
        self.assertEqual(house.together([("bound", (1, 1)), ("bound", (3, 1))]), (3, ["a", "b", "c"]))
        self.assertEqual(house.rows(""), [["a"], ["b"], ["c"]])

    def test_a_name_taken_and_put_again(self):
        house = House(4, 2)
        house.together([("put", "a", "", 0, 1), ("put", "b", "", 1, 1)])
        anew, moved = house.together([("take", "a"), ("put", "a", "", 1, 1)])
        self.assertEqual(moved, ["a", "b"])
        self.assertEqual(house.children(""), ["b", "a"])
        anew, moved = house.together([("take", "a"), ("nest", "a", "", 0), ("put", "c", "a", 0, 1)])
        self.assertEqual(moved, ["a", "b"])
        self.assertIs(house.is_nest("a"), True)

    def test_none_at_all(self):
        for deeds in ([], ()):
            house = some_house()
            house.weigh("a", 7)
            house.undo()
            told = asked(house)
            self.assertEqual(house.together(deeds), (0, []))
            self.assertEqual(asked(house), told)
            self.assertEqual(house.steps(), (1, 1))
            house.redo()
            self.assertEqual(house.weight("a"), 7)

    def test_deeds_that_change_nothing_are_deeds(self):
        house = some_house()
        house.do(("bound", (2, 1)))
        house.together([("weigh", "a", 6), ("box", 30, 20)])
        self.assertEqual(house.steps(), (3, 0))

    def test_refused_wherever_it_is(self):
        for at in range(len(DEEDS) + 1):
            for refusal, wrong in ((NoName, ("take", "zz")), (BadDeed, ("take",)), (BadPlace, ("put", "x", "", 99, 0)),
                                   (Taken, ("put", "a", "", 0, 1)), (BadDeed, None)):
                house = some_house()
                house.weigh("a", 7)
                house.undo()
                twin = house.twin()
                self.assertRaises(refusal, house.together, DEEDS[:at] + [wrong] + DEEDS[at:])
                self.assertRaises(refusal, house.together, tuple(DEEDS[:at] + [wrong, ("take", "there is none")]))
                self.assertTrue(house == twin)
                self.assertEqual(house.steps(), (1, 1))
        self.assertEqual(asked(house), asked(twin))
        house.redo()
        self.assertEqual(house.weight("a"), 7)

    def test_the_first_refusal_goes(self):
        house = some_house()
        with self.assertRaises(NoName) as caught:
            house.together([("weigh", "b", 1), ("take", "yy"), ("put", "a", "", 0, 1), None])
        self.assertEqual(caught.exception.name, "yy")
        # What one deed of a row takes away is not there for the next, and what it puts is.
        with self.assertRaises(NoName) as caught:
            house.together([("take", "b"), ("weigh", "b", 3)])
        self.assertEqual(caught.exception.name, "b")
        house.together([("nest", "u", "", 0), ("put", "v", "u", 0, 3), ("weigh", "v", 4)])
        self.assertEqual(house.weight("u"), 4)

    def test_a_list_changed_behind_it(self):
        house = some_house()
        deeds = list(DEEDS)
        house.together(deeds)
        told = copy.deepcopy(asked(house))
        deeds[0] = ("take", "a")
        deeds.clear()
        self.assertEqual(asked(house), told)
        house.undo()
        house.redo()
        self.assertEqual(asked(house), told)


class Steps(unittest.TestCase):
    def test_nothing_left(self):
        house = House(4, 2)
        for call in (house.undo, house.redo):
            with self.assertRaises(NothingLeft) as caught:
                call()
            self.assertEqual(vars(caught.exception), {"called": "NothingLeft"})
        self.assertEqual(house.steps(), (0, 0))
        house.put("a", "", 0, 1)
        self.assertRaises(NothingLeft, house.redo)
        house.undo()
        self.assertRaises(NothingLeft, house.undo)
        self.assertEqual(house.steps(), (0, 1))

    def test_all_the_way_back_and_again(self):
        house = some_house()
        told = [asked(house)]
        for deed in DEEDS:
            house.do(deed)
            told.append(asked(house))
        for back in range(2):
            for at in reversed(range(len(DEEDS))):
                self.assertIsNone(house.undo())
                self.assert_like(house, told[at])
                self.assertEqual(house.steps(), (1 + at, len(DEEDS) - at))
            for at in range(len(DEEDS)):
                self.assertIsNone(house.redo())
                self.assert_like(house, told[at + 1])
                self.assertEqual(house.steps(), (2 + at, len(DEEDS) - at - 1))
        self.assertRaises(NothingLeft, house.redo)

    def assert_like(self, house, told):
        found = asked(house)
        # All but the steps, which are told in the sixth place.
        self.assertEqual(found[:5] + found[6:], told[:5] + told[6:])

    def test_a_row_of_deeds_is_one_step(self):
        house = some_house()
        held = house.twin()
        house.together(DEEDS)
        behind = house.twin()
        house.undo()
        self.assertTrue(house == held)
        house.redo()
        self.assertTrue(house == behind)
        house.undo()
        house.undo()
        self.assertTrue(house == House(30, 20))

    def test_another_deed_ends_what_can_be_done_again(self):
        for deed in (("weigh", "a", 6), ("put", "z", "", 0, 1), ("anew", "")):
            house = some_house()
            house.weigh("a", 7)
            house.weigh("a", 8)
            house.undo()
            house.undo()
            self.assertEqual(house.steps(), (1, 2))
            house.do(deed)
            self.assertEqual(house.steps(), (2, 0))
            self.assertRaises(NothingLeft, house.redo)
            house.undo()
            self.assertEqual(house.weight("a"), 6)
            self.assertEqual(house.steps(), (1, 1))

    def test_rows_come_back_as_they_were(self):
        house = House(6, 6, bound=(3, 1))
        house.together([("put", name, "", at, 1) for at, name in enumerate("abc")])
        self.assertEqual(house.rows(""), [["a"], ["b"], ["c"]])
        house.turn("", "down")
        self.assertEqual(house.rows(""), [["a", "b", "c"]])
        house.undo()
        self.assertEqual(house.rows(""), [["a"], ["b"], ["c"]])
        self.assertEqual(house.weigh("a", 1), (0, []))
        self.assertEqual(house.rows(""), [["a"], ["b"], ["c"]])

    def test_refused_and_asked_changes_no_steps(self):
        house = some_house()
        house.weigh("a", 7)
        house.undo()
        self.assertRaises(NoName, house.take, "zz")
        self.assertRaises(NoName, house.box, "zz")
        asked(house)
        self.assertEqual(house.steps(), (1, 1))


class Twins(unittest.TestCase):
    def test_a_twin_has_all_of_it(self):
        house = some_house()
        house.weigh("a", 7)
        house.weigh("a", 8)
        house.undo()
        twin = house.twin()
        self.assertIs(type(twin), House)
        self.assertIsNot(twin, house)
        self.assertTrue(twin == house)
        self.assertEqual(asked(twin), asked(house))
        twin.redo()
        self.assertEqual(twin.weight("a"), 8)
        for _ in range(3):
            twin.undo()
        self.assertTrue(twin == House(30, 20))
        self.assertEqual([twin.steps(), house.steps()], [(0, 3), (2, 1)])

    def test_each_goes_its_own_way(self):
        for deed in DEEDS[:3] + [("move", "m", "p", 0)] + DEEDS[4:]:
            house, held = some_house(), some_house()
            twin = house.twin()
            twin.do(deed)
            self.assertEqual(asked(house), asked(held))
            self.assertEqual([house.steps(), twin.steps()], [(1, 0), (2, 0)])
            house.do(("put", "x", "o", 0, 1))
            self.assertRaises(NoName, twin.weight, "x")
            twin.undo()
            self.assertTrue(twin == held)

    def test_twins_of_twins(self):
        first = some_house()
        second = first.twin()
        third = second.twin()
        second.weigh("a", 2)
        fourth = second.twin()
        fourth.undo()
        fourth.undo()
        self.assertEqual([house.steps() for house in (first, second, third, fourth)],
                         [(1, 0), (2, 0), (1, 0), (0, 2)])
        self.assertEqual([house.weight("a") for house in (first, second, third)], [6, 2, 6])
        self.assertTrue(first == third)
        third.undo()
        self.assertTrue(third == fourth)
        self.assertFalse(third == first)
        fourth.redo()
        fourth.redo()
        self.assertTrue(fourth == second)

    def test_the_steps_are_apart(self):
        house = some_house()
        twin = house.twin()
        house.undo()
        self.assertEqual([house.steps(), twin.steps()], [(0, 1), (1, 0)])
        house.put("z", "", 0, 1)
        twin.undo()
        twin.redo()
        self.assertTrue(twin == some_house())


if __name__ == "__main__":
    unittest.main()
