"""Points 18 and 19: how each nest is settled behind each deed, which rows stay, what a deed tells."""

import unittest
from itertools import product

from calmcuts.best import best, least
from calmcuts.boxes import box_of
from calmcuts.house import House
from calmcuts.pages import page, read_page
from plainhouse import Plain, answers
from plainly import all_sizes, ends_of


def house_with(weights, *, wide=6, high=6, bound=(2, 1), side="down", sizes=None):
    """A house of things a, b and so on, in rows of these sizes, or as they are settled where none are told."""
    house = House(wide, high, bound=bound, side=side)
    house.together([("put", name, "", at, weight) for at, (name, weight) in enumerate(zip("abcdefghijkl", weights))])
    return house if sizes is None else with_sizes(house, "", sizes)


def with_sizes(house, nest, sizes):
    """A house like this one, but with a nest in rows of these sizes, as only a page can have them."""
    lines = page(house).split("\n")
    for at, line in enumerate(lines):
        words = line.split(" ")
        if words[:2] == ["nest", nest or "-"]:
            lines[at] = " ".join(words[:4] + ["+".join(map(str, sizes))])
    return read_page("\n".join(lines))


def plain_of(house):
    """What a house is like, as a plain one."""
    plain = Plain(*house.size(), house.bound())
    nests = [name for name in [""] + house.names() if house.is_nest(name)]
    plain.now["nests"] = {nest: {"side": house.side(nest), "children": house.children(nest), "rows": house.rows(nest)}
                          for nest in nests}
    plain.now["loads"] = {name: house.weight(name) for name in house.boxes()}
    return plain


class Settled(unittest.TestCase):
    def check(self, house, deed):
        """A deed is told, and leaves all, as it does where all sizes are tried."""
        house, plain = house.twin(), plain_of(house)
        ahead = house.steps()
        self.assertEqual(house.do(deed), plain.do(deed), deed)
        plain.back = [None] * (ahead[0] + 1)
        for found, told in answers(house, plain):
            self.assertEqual(found, told, deed)
        return house


class OneNest(Settled):
    DEEDS = [("weigh", "a", 1), ("weigh", "c", 9), ("take", "a"), ("take", "b"), ("put", "z", "", 0, 1),
             ("put", "z", "", 1, 2), ("put", "z", "", 2, 3), ("put", "z", "", 4, 1), ("move", "a", "", 3),
             ("move", "b", "", 2), ("move", "d", "", 3), ("nest", "z", "", 2), ("side", "", "down"),
             ("side", "", "across"), ("box", 6, 4), ("box", 9, 4), ("bound", (2, 1)), ("bound", (4, 1)), ("anew", "")]

    def test_all_rows_that_there_may_be(self):
        for weights, bound in (([1, 1, 1, 1], (2, 1)), ([1, 2, 5, 1], (3, 1)), ([3, 1, 1, 2], (1, 1)),
                               ([1, 1, 3, 1], (8, 1))):
            for sizes in all_sizes(4):
                house = house_with(weights, wide=6, high=4, bound=bound, sizes=sizes)
                self.assertEqual([len(row) for row in house.rows("")], list(sizes))
                for deed in self.DEEDS:
                    self.check(house, deed)

    def test_across(self):
        for sizes in all_sizes(4):
            house = house_with([2, 1, 1, 3], wide=9, high=4, bound=(5, 2), side="across", sizes=sizes)
            for deed in self.DEEDS:
                self.check(house, deed)

    def test_rows_stay_as_long_as_they_may(self):
        # Three equal things in a square: in rows of one, and in one row, the shape is 3; beside a row of two 4/3 and 3.
        house = house_with([1, 1, 1], bound=(3, 1))
        self.assertEqual(house.rows(""), [["a"], ["b"], ["c"]])
        self.assertEqual(house.do(("box", 7, 7)), (0, ["a", "b", "c"]))
        self.assertEqual(house.do(("weigh", "a", 1)), (0, []))
        self.assertEqual(house.rows(""), [["a"], ["b"], ["c"]])
        house = with_sizes(house, "", (3,))
        self.assertEqual(house.do(("box", 6, 6)), (0, ["a", "b", "c"]))
        self.assertEqual(house.rows(""), [["a", "b", "c"]])

    def test_the_box_and_the_bound_told_again(self):
        for sizes in ((1, 1, 1), (3,), (1, 2), (2, 1)):
            house = house_with([1, 1, 1], bound=(3, 1), sizes=sizes)
            self.assertEqual(house.resize(6, 6), (0, []))
            self.assertEqual(house.bind((3, 1)), (0, []))
            self.assertEqual([len(row) for row in house.rows("")], list(sizes))
            self.assertEqual(house.steps(), (2, 0))

    def test_rows_over_the_bound_stay_till_a_deed(self):
        house = house_with([1, 1, 1, 1], wide=4, high=4, bound=(1, 1), sizes=(4,))
        self.assertEqual(house.worst(), (4, 1))
        self.assertEqual(house.resize(4, 4), (2, ["a", "b", "c", "d"]))
        self.assertEqual(house.rows(""), [["a", "b"], ["c", "d"]])

    def test_some_are_kept_and_the_fewest_are_cut_anew(self):
        # With the bound 1 rows of two are told; c, d has been one.
        house = house_with([1, 1, 1, 1], wide=4, high=4, bound=(1, 1), sizes=(1, 1, 2))
        self.assertEqual(house.bind((1, 1)), (1, ["a", "b"]))
        self.assertEqual(house.rows(""), [["a", "b"], ["c", "d"]])
        house = house_with([1, 1, 1, 1], wide=4, high=4, bound=(4, 1), sizes=(1, 1, 2))
        self.assertEqual(house.bind((4, 1)), (0, []))
        self.assertEqual(house.bind((3, 1)), (1, ["a", "b"]))

    def test_no_sizes_keep_the_bound(self):
        house = house_with([1, 1, 1], bound=(2, 1), sizes=(3,))
        self.assertEqual(best(box_of(6, 6), [1, 1, 1]), (1, 1, 1))
        self.assertEqual(house.resize(6, 6), (3, ["a", "b", "c"]))
        self.assertEqual(house.rows(""), [["a"], ["b"], ["c"]])
        self.assertEqual(house.worst(), least(box_of(6, 6), [1, 1, 1]))
        # The best ones again, each of which was there.
        self.assertEqual(house.resize(6, 6), (0, []))
        house = house_with([1, 1, 1], bound=(2, 1), sizes=(1, 2))
        self.assertEqual(house.resize(6, 6), (2, ["b", "c"]))

    def test_not_one_behind_the_other(self):
        # What comes between the two of a row has it cut anew, what comes ahead of it or behind it doesn't.
        wide = dict(wide=8, high=4, bound=(100, 1), sizes=(1, 2, 1))
        for at, rows, anew in ((0, [["z"], ["a"], ["b", "c"], ["d"]], 1), (1, [["a"], ["z"], ["b", "c"], ["d"]], 1),
                               (2, [["a"], ["b", "z", "c"], ["d"]], 1), (3, [["a"], ["b", "c"], ["z"], ["d"]], 1),
                               (4, [["a"], ["b", "c"], ["d"], ["z"]], 1)):
            house = house_with([2, 1, 1, 4], **wide)
            self.assertEqual(house.put("z", "", at, 1)[0], anew)
            self.assertEqual(house.rows(""), rows)

    def test_not_in_this_order(self):
        house = house_with([2, 1, 1, 4], wide=8, high=4, bound=(100, 1), sizes=(1, 2, 1))
        self.assertEqual(house.move("c", "", 1)[0], 1)
        self.assertEqual(house.rows(""), [["a"], ["c", "b"], ["d"]])

    def test_a_row_that_moves_as_a_whole_stays(self):
        house = house_with([2, 1, 1, 4], wide=8, high=4, bound=(100, 1), sizes=(1, 2, 1))
        self.assertEqual(house.move("a", "", 3)[0], 0)
        self.assertEqual(house.rows(""), [["b", "c"], ["d"], ["a"]])
        self.assertEqual(house.move("d", "", 0)[0], 0)
        self.assertEqual(house.rows(""), [["d"], ["b", "c"], ["a"]])

    def test_one_of_a_row_goes(self):
        house = house_with([2, 1, 1, 4], wide=8, high=4, bound=(100, 1), sizes=(1, 2, 1))
        self.assertEqual(house.take("b")[0], 1)
        self.assertEqual(house.rows(""), [["a"], ["c"], ["d"]])
        self.assertEqual(house.take("c")[0], 0)
        self.assertEqual(house.rows(""), [["a"], ["d"]])

    def test_of_equal_costs_the_first(self):
        # One row of four would be one cut anew as well.
        house = house_with([1, 1, 1], bound=(4, 1), sizes=(3,))
        self.assertEqual(house.put("z", "", 3, 1)[0], 1)
        self.assertEqual(house.rows(""), [["a", "b", "c"], ["z"]])
        house = house_with([1, 1, 1], bound=(4, 1), sizes=(3,))
        self.assertEqual(house.put("z", "", 0, 1)[0], 1)
        self.assertEqual(house.rows(""), [["z"], ["a", "b", "c"]])

    def test_the_side(self):
        for side in ("down", "across"):
            house = house_with([1, 1, 1], bound=(3, 1), side=side, sizes=(1, 1, 1))
            self.assertEqual(house.turn("", side), (1, ["a", "b", "c"]))
            self.assertEqual(house.rows(""), [["a", "b", "c"]])
            self.assertEqual(house.turn("", side), (1, []))
            self.assertEqual(house.steps(), (2, 0))

    def test_anew(self):
        for sizes, anew in (((4,), 2), ((1, 1, 1, 1), 2), ((2, 2), 0), ((1, 1, 2), 1), ((2, 1, 1), 1), ((1, 2, 1), 2)):
            house = house_with([1, 1, 1, 1], wide=4, high=4, bound=(4, 1), sizes=sizes)
            self.assertEqual(house.resize(4, 4)[0], 0)
            self.assertEqual(house.anew("")[0], anew)
            self.assertEqual(house.rows(""), [["a", "b"], ["c", "d"]])
            self.assertEqual(house.anew(""), (0, []))

    def test_anew_is_for_once(self):
        house = house_with([1, 1, 1, 1], wide=4, high=4, bound=(4, 1), sizes=(4,))
        house.anew("")
        # The best ones would be two rows of two again.
        self.assertEqual(house.move("d", "", 0)[0], 1)
        self.assertEqual(house.rows(""), [["d", "a", "b", "c"]])

    def test_twelve(self):
        for weights in ([1] * 12, list(range(1, 13)), [7, 1, 300, 2, 2, 9, 1, 1, 40, 5, 10000, 3]):
            house = house_with(weights, wide=30, high=20, bound=(3, 1))
            for deed in (("weigh", "f", 20), ("move", "l", "", 0), ("take", "c"), ("anew", ""), ("box", 20, 30)):
                house = self.check(house, deed)


class Nests(Settled):
    def setUp(self):
        self.house = House(30, 20, bound=(3, 1))
        self.house.together(
            [("nest", "n", "", 0), ("nest", "m", "n", 0), ("put", "a", "", 1, 5)] +
            [("put", name, "n", at, at) for at, name in enumerate("bcd", 1)] +
            [("put", name, "m", at, 2) for at, name in enumerate("efgh")] + [("side", "m", "across")])

    def test_each_deed(self):
        for deed in (("weigh", "e", 9), ("weigh", "a", 100), ("move", "m", "", 0), ("move", "a", "m", 2), ("take", "b"),
                     ("put", "z", "m", 2, 4), ("side", "n", "across"), ("side", "", "across"), ("box", 20, 30),
                     ("bound", (1, 1)), ("bound", (9, 1)), ("anew", "n"), ("anew", "m"), ("anew", ""),
                     ("nest", "z", "m", 0), ("move", "e", "", 1)):
            self.check(self.house, deed)

    def test_anew_is_for_that_nest_only(self):
        house = self.house
        house.bind((400, 1))
        for nest in ("", "n", "m"):
            house.turn(nest, house.side(nest))
        self.assertEqual([len(house.rows(nest)) for nest in ("", "n", "m")], [1, 1, 1])
        rows = {nest: house.rows(nest) for nest in ("", "n", "m")}
        changed = []
        for nest in rows:
            twin = house.twin()
            twin.anew(nest)
            changed += [other for other in rows if twin.rows(other) != rows[other]]
        self.assertEqual(changed, ["n", "m"])

    def test_a_nest_gets_weight_and_loses_it(self):
        house = House(4, 2, bound=(4, 1))
        self.assertEqual(house.nest("n", "", 0), (0, []))
        self.assertEqual(house.nest("m", "n", 0), (0, []))
        self.assertEqual(house.put("a", "", 1, 1), (1, []))
        self.assertEqual([house.rows(""), house.rows("n"), house.rows("m")], [[["a"]], [], []])
        # The row of a stays, and one for n is cut, one in n for m, and one in m for b.
        self.assertEqual(house.put("b", "m", 0, 1), (3, ["a"]))
        self.assertEqual([house.rows(""), house.rows("n"), house.rows("m")], [[["n"], ["a"]], [["m"]], [["b"]]])
        self.assertEqual(house.take("b"), (0, ["a"]))
        self.assertEqual([house.rows(""), house.rows("n"), house.rows("m")], [[["a"]], [], []])
        self.assertEqual(house.put("c", "n", 0, 1), (2, ["a"]))
        self.assertEqual([house.rows(""), house.rows("n"), house.rows("m")], [[["n"], ["a"]], [["c"]], []])

    def test_a_row_that_one_without_weight_leaves(self):
        house = House(8, 4, bound=(100, 1))
        house.together([("put", "a", "", 0, 1), ("nest", "n", "", 1), ("put", "b", "", 2, 1), ("put", "c", "n", 0, 1)])
        house.turn("", "down")
        self.assertEqual(house.rows(""), [["a", "n", "b"]])
        self.assertEqual(house.take("c"), (1, ["a", "b"]))
        self.assertEqual(house.rows(""), [["a", "b"]])
        # A nest without weight between the two of a row is none of those that are laid.
        self.assertEqual(house.move("n", "", 0), (0, []))
        self.assertEqual(house.move("n", "", 2), (0, []))
        self.assertEqual(house.rows(""), [["a", "b"]])
        self.assertEqual(house.put("c", "n", 0, 1)[0], 2)

    def test_without_things(self):
        house = House(4, 2)
        for deed in (("nest", "n", "", 0), ("nest", "m", "n", 0), ("side", "n", "across"), ("anew", ""), ("anew", "m"),
                     ("move", "m", "", 0), ("box", 9, 9), ("bound", (1, 1)), ("take", "n")):
            self.assertEqual(house.do(deed), (0, []))

    def test_a_nests_rows_go_with_it(self):
        house = with_sizes(self.house, "m", (1, 2, 1))
        house.bind((1000, 1))
        self.assertEqual(house.rows("m"), [["e"], ["f", "g"], ["h"]])
        house.move("m", "", 0)
        self.assertEqual(house.rows("m"), [["e"], ["f", "g"], ["h"]])
        self.assertEqual(house.place("m"), ("", 0))

    def test_from_the_outermost_in(self):
        # The box of a nest is the one that it has behind the deed: only there are its rows of one over the bound.
        house = House(4, 4, bound=(2, 1))
        house.together([("nest", "n", "", 0), ("put", "a", "n", 0, 1), ("put", "b", "n", 1, 1)])
        self.assertEqual(house.rows("n"), [["a"], ["b"]])
        house.put("c", "", 1, 2)
        self.assertEqual(house.rows(""), [["n"], ["c"]])
        self.assertEqual(house.rows("n"), [["a", "b"]])
        self.assertEqual(house.worst(), (2, 1))


class Told(unittest.TestCase):
    def test_moved_are_those_with_a_box_ahead_and_behind(self):
        house = House(4, 2, bound=(4, 1))
        self.assertEqual(house.put("b", "", 0, 1)[1], [])
        self.assertEqual(house.put("a", "", 1, 1)[1], ["b"])
        self.assertEqual(house.put("c", "", 2, 2)[1], ["a", "b"])
        self.assertEqual(house.take("a")[1], ["b", "c"])
        self.assertEqual(house.resize(4, 2)[1], [])
        self.assertEqual(house.resize(4, 3)[1], ["b", "c"])

    def test_nests_are_told_and_the_outermost_is_not(self):
        house = House(4, 2, bound=(100, 1))
        house.together([("nest", "n", "", 0), ("put", "b", "n", 0, 1), ("put", "z", "", 1, 1)])
        self.assertEqual(house.resize(4, 3)[1], ["b", "n", "z"])
        self.assertEqual(house.weigh("z", 2)[1], ["b", "n", "z"])
        self.assertEqual(house.nest("a", "n", 0)[1], [])

    def test_what_stays_where_it_is_is_not_told(self):
        house = house_with([1, 1, 2], wide=4, high=4, bound=(4, 1), sizes=(2, 1))
        self.assertEqual(house.boxes()["c"], ((0, 1), (2, 1), (4, 1), (2, 1)))
        self.assertEqual(house.move("b", "", 0), (1, ["a", "b"]))
        self.assertEqual(house.boxes()["c"], ((0, 1), (2, 1), (4, 1), (2, 1)))

    def test_told_lists_are_new(self):
        house = house_with([1, 1], wide=4, high=4)
        _, moved = house.resize(3, 3)
        moved.append("z")
        self.assertEqual(house.resize(4, 4), (0, ["a", "b"]))


class Fewest(unittest.TestCase):
    """Where some sizes keep the bound the worst shape does, and no sizes that do cut fewer rows anew."""

    def test_all(self):
        for weights in product((1, 3), repeat=4):
            for sizes in all_sizes(4):
                house = house_with(weights, wide=5, high=4, bound=(5, 2), sizes=sizes)
                ahead = house.rows("")
                anew, _ = house.move("b", "", 2)
                order = ["a", "c", "b", "d"]
                best_of_all = []
                for others in all_sizes(4):
                    rows = [order[first:end] for first, end in ends_of(others)]
                    twin = with_sizes(house, "", others)
                    if twin.worst()[0] * 2 <= 5 * twin.worst()[1]:
                        best_of_all.append((sum(row not in ahead for row in rows), others))
                if best_of_all:
                    self.assertEqual((anew, tuple(map(len, house.rows("")))), min(best_of_all))
                else:
                    self.assertEqual(house.worst(), least(box_of(5, 4), [house.weight(name) for name in order]))


if __name__ == "__main__":
    unittest.main()
