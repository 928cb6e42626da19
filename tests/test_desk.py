"""Point 22: a desk's lines and its answers; point 2 for these."""

import unittest
from fractions import Fraction

from calmcuts.boxes import box_of
from calmcuts.desk import Desk
from calmcuts.house import House
from calmcuts.pages import page
from plainhouse import part_text
from test_deeds import deep, full_of_names
from test_house import asked, some_house

NO_FORMS = [
    "", " ", "x", "-", "put", "say", "Put z - 0 1", "PUT z - 0 1", "twin", "steps", "page", "names", "turn - down",
    "resize 3 4", "bind 2", "do", "together", "box", "no line", "done",
    # Words more or fewer.
    "put z - 0", "put z - 0 1 1", "nest z -", "nest z - 0 1", "weigh a", "weigh a 1 1", "take", "take a b", "move a -",
    "move a - 0 1", "side -", "side - down down", "box 3", "box 3 4 2", "bound", "bound 2 1", "anew", "anew - -",
    "undo 1", "redo undo", "where", "where a b", "at 1", "at 1 2 3", "next", "next a b", "way a", "way a b c",
    "worst a",
    # Blanks more or fewer.
    " put z - 0 1", "put z - 0 1 ", "put  z - 0 1", "put z  0 1", "put z -  1", "put z - 0 ", "undo ", " undo",
    " redo", "worst ", "take ", "take  a", "take a ", "where ", "next ", "way a ", "way  a", "way  ", "anew ", "side  down",
    "side - ", "side -  down", "move  - 0", "move a  0", "put\tz\t-\t0\t1", "undo\t", "putz-01", "anew-", "takea",
    # Line feeds.
    "undo\n", "\nundo", "put z - 0 1\n", "\ntake a", "box 3\n4", "box 3 4\n", "bound 2\n", "at 1\n 2", "worst\n",
    "take\na", "put z - 0\n1", "put z - \n0 1"]
NO_NUMBERS = ["+1", "01", "-0", "00", "-01", "+0", "--1", "1.0", "1/1", "1e3", "x", "a", "1a", "_1", "1_0", "0x1",
              "1000000", "-1000000", "0000001", "9" * 20, "9" * 5000, "-" + "9" * 9000, "-", "1-", "0-", "1,0", "None"]
NO_PARTS = ["+1", "01", "-0", "0/2", "2/4", "4/2", "2/1", "-2/1", "1/-2", "1/0", "0/0", "1/", "/2", "1//2", "1.5", "x", "-",
            "--1", "1/2/3", "1" * 201, "1/" + "3" * 201, "9" * 15000, "01/2", "1/02", "(1,2)", "1,2"]


class Says(unittest.TestCase):
    def says(self, house, line, answer):
        """A desk of the house gives this answer."""
        with self.subTest(line[:100]):
            self.assertEqual(Desk(house).say(line), answer)


class Deeds(Says):
    def test_each(self):
        lines = {"put z - 0 9": ("put", "z", "", 0, 9), "put z m 1 10000": ("put", "z", "m", 1, 10000),
                 "nest z - 4": ("nest", "z", "", 4), "nest z n 0": ("nest", "z", "n", 0),
                 "weigh a 77": ("weigh", "a", 77), "take b": ("take", "b"), "take o": ("take", "o"),
                 "move m - 0": ("move", "m", "", 0), "move a n 3": ("move", "a", "n", 3),
                 "side - across": ("side", "", "across"), "side m across": ("side", "m", "across"),
                 "side - down": ("side", "", "down"), "box 7 1000": ("box", 7, 1000), "bound 1": ("bound", (1, 1)),
                 "bound 7/3": ("bound", (7, 3)), "bound " + "9" * 30: ("bound", (10 ** 30 - 1, 1)),
                 "anew -": ("anew", ""), "anew n": ("anew", "n")}
        for line, deed in lines.items():
            house, other = some_house(), some_house()
            anew, moved = other.do(deed)
            self.says(house, line, f"{anew} {','.join(moved) or '-'}")
            self.assertTrue(house == other)
            self.assertEqual(house.steps(), (2, 0))

    def test_plain_answers(self):
        house = House(4, 2)
        for line, answer in (("put a - 0 1", "1 -"), ("nest n - 1", "0 -"), ("put b n 0 1", "2 a"),
                             ("weigh b 3", "0 a,b,n"), ("box 4 2", "0 -"), ("anew n", "0 -"), ("undo", "done"),
                             ("redo", "done"), ("undo", "done"), ("undo", "done"), ("undo", "done"),
                             ("box 4 4", "0 a,b,n"), ("redo", "no NothingLeft"), ("take a", "1 b,n")):
            self.says(house, line, answer)

    def test_refusals(self):
        house = some_house()
        held = page(house)
        for line, name in (
                ("put A - 0 1", "BadName"), ("put - - 0 1", "BadName"), ("put abcdefghi - 0 1", "BadName"),
                ("put z\n - 0 1", "BadName"), ("put \n - 0 1", "BadName"), ("put z, - 0 1", "BadName"),
                ("put a - 0 1", "Taken"), ("put n zz 99 0", "Taken"), ("put z zz 0 1", "NoNest"),
                ("put z a 0 1", "NoNest"), ("put z -- 0 1", "NoNest"), ("put z -\n 0 1", "NoNest"),
                ("put z - 5 1", "BadPlace"), ("put z - -1 1", "BadPlace"), ("put z - 999999 0", "BadPlace"),
                ("put z - 0 0", "BadWeight"), ("put z - 0 10001", "BadWeight"), ("put z - 0 -5", "BadWeight"),
                ("nest - - 0", "BadName"), ("nest a - 0", "Taken"), ("nest z zz 0", "NoNest"), ("nest z - 5", "BadPlace"),
                ("weigh - 5", "NoName"), ("weigh n 5", "NoName"), ("weigh zz 0", "NoName"), ("weigh a 0", "BadWeight"),
                ("weigh a -999999", "BadWeight"), ("take -", "NoName"), ("take zz", "NoName"), ("take n", "NotEmpty"),
                ("take a\n", "NoName"), ("move - - 0", "NoName"), ("move zz - 0", "NoName"), ("move a zz 0", "NoNest"),
                ("move n n 0", "Within"), ("move n m -1", "Within"), ("move a - 4", "BadPlace"),
                ("side zz down", "NoNest"), ("side - up", "BadSide"), ("side - -", "BadSide"), ("side - Down", "BadSide"),
                ("side - down\n", "BadSide"), ("box 0 5", "BadBox"), ("box 5 -5", "BadBox"), ("box 1001 5", "BadBox"),
                ("box 999999 -999999", "BadBox"), ("bound 1/2", "BadBound"), ("bound 0", "BadBound"),
                ("bound -7/3", "BadBound"), ("bound 1" + "0" * 30, "BadBound"), ("bound " + "9" * 200, "BadBound"),
                ("anew zz", "NoNest"), ("anew a", "NoNest"), ("redo", "NothingLeft"), ("where zz", "NoName"),
                ("where -", "NoName"), ("where o", "Bare"), ("next zz", "NoName"), ("next n", "NoName"),
                ("next -", "NoName"), ("way zz a", "NoName"), ("way a n", "NoName"), ("way - -", "NoName"),
                ("where a\n", "NoName")):
            self.says(house, line, f"no {name}")
            self.assertEqual([page(house), house.steps()], [held, (1, 0)])

    def test_full(self):
        self.says(full_of_names(), "put z - 0 1", "no Full")
        self.says(deep(), "put z d 0 1", "no Full")
        self.says(deep(), "move f b 0", "no Full")
        self.says(House(3, 4), "undo", "no NothingLeft")


class Questions(Says):
    def setUp(self):
        self.house = House(4, 4, bound=(1, 1))
        self.house.together([("put", name, "", at, 1) for at, name in enumerate("abcd")])

    def test_where(self):
        self.says(self.house, "where a", "0 0 2 2")
        self.says(self.house, "where d", "2 2 2 2")
        house = some_house()
        for name in "abcdemn":
            self.says(house, f"where {name}", " ".join(part_text(number) for number in house.box(name)))
        self.house.resize(5, 4)
        self.says(self.house, "where b", "5/2 0 5/2 2")

    def test_at(self):
        for line, answer in (("at 0 0", "a"), ("at 1 3", "c"), ("at 2 2", "d"), ("at 4 0", "-"), ("at 0 4", "-"),
                             ("at -1 0", "-"), ("at -1/3 0", "-"), ("at 199/100 0", "a"), ("at 201/100 7/3", "d"),
                             ("at 2 399/100", "d"), ("at " + "1" * 200 + " 0", "-"),
                             ("at 1/" + "7" * 200 + " 0", "a")):
            self.says(self.house, line, answer)
        self.says(House(3, 4), "at 0 0", "-")

    def test_next(self):
        self.says(self.house, "next a", "b:2,c:2")
        self.says(self.house, "next d", "b:2,c:2")
        house = House(4, 2)
        house.put("a", "", 0, 1)
        self.says(house, "next a", "-")
        self.house.resize(5, 4)
        self.says(self.house, "next a", "b:2,c:5/2")
        house = some_house()
        for name in "abcde":
            self.says(house, f"next {name}", ",".join(f"{other}:{part_text(length)}"
                                                      for other, length in house.neighbours(name)))

    def test_way(self):
        self.says(self.house, "way a d", "a,b,d")
        self.says(self.house, "way d a", "d,b,a")
        self.says(self.house, "way b b", "b")

    def test_worst(self):
        self.says(self.house, "worst", "1")
        self.says(House(3, 4), "worst", "-")
        self.house.resize(5, 4)
        self.says(self.house, "worst", part_text(self.house.worst()))
        house = House(4, 3)
        house.put("a", "", 0, 1)
        self.says(house, "worst", "4/3")

    def test_asking_changes_nothing(self):
        house = some_house()
        told = asked(house)
        desk = Desk(house)
        for line in ("where a", "at 0 0", "next a", "way a b", "worst", "where zz", "no such line"):
            self.assertEqual(desk.say(line), desk.say(line))
        self.assertEqual(asked(house), told)


class NoLine(Says):
    def test_no_forms(self):
        house = some_house()
        house.weigh("a", 7)
        house.undo()
        told = asked(house)
        for line in NO_FORMS:
            self.says(house, line, "no line")
        self.assertEqual(asked(house), told)

    def test_no_numbers(self):
        house = some_house()
        for word in NO_NUMBERS:
            for line in ("put z - {} 1", "put z - 0 {}", "nest z - {}", "weigh a {}", "move a - {}", "box {} 4",
                         "box 3 {}"):
                self.says(house, line.format(word), "no line")
        self.assertEqual(house.steps(), (1, 0))

    def test_no_numbers_ahead_of_all_refusals(self):
        for line in ("put A zz 01 0", "weigh zz 01", "move zz zz +1", "box 0 01", "nest A zz -0", "put a - 1000000 1"):
            self.says(some_house(), line, "no line")

    def test_numbers_that_are(self):
        house = some_house()
        for word, answer in (("0", "no BadBox"), ("-1", "no BadBox"), ("-999999", "no BadBox"), ("999999", "no BadBox"),
                             ("100000", "no BadBox"), ("-10", "no BadBox")):
            self.says(house, f"box {word} 20", answer)

    def test_no_parts(self):
        house = some_house()
        for word in NO_PARTS:
            for line in ("bound {}", "at {} 0", "at 0 {}"):
                self.says(house, line.format(word), "no line")
        self.assertEqual(house.steps(), (1, 0))

    def test_a_long_line(self):
        self.says(some_house(), "put " + "a" * 19000 + " - 0 1", "no BadName")
        self.says(some_house(), "where " + "\n" * 19000, "no NoName")
        self.says(some_house(), " " * 20000, "no line")
        self.says(some_house(), "a " * 10000, "no line")


class Desks(unittest.TestCase):
    def test_of_that_very_house(self):
        house = some_house()
        desk = Desk(house)
        self.assertIs(desk.house, house)
        self.assertIs(Desk(house=house).house, house)
        empty = House(3, 4)
        self.assertIs(Desk(empty).house, empty)

    def test_two_desks_of_one_house(self):
        house = House(4, 2)
        one, other = Desk(house), Desk(house)
        self.assertEqual(one.say("put a - 0 1"), "1 -")
        self.assertEqual(other.say(line="where a"), "0 0 4 2")
        self.assertEqual(other.say("undo"), "done")
        self.assertEqual(one.say("where a"), "no NoName")
        house.put("b", "", 0, 1)
        self.assertEqual([one.say("at 0 0"), other.say("at 0 0")], ["b", "b"])
        twin = Desk(house.twin())
        twin.say("take b")
        self.assertEqual([one.say("at 0 0"), twin.say("at 0 0")], ["b", "-"])

    def test_a_long_day(self):
        desk = Desk(House(30, 20))
        lines = [f"put {name} - {at} {at + 1}" for at, name in enumerate("abcdef")]
        for line in lines:
            self.assertRegex(desk.say(line), "^[1-9] (-|[a-z](,[a-z])*)$")
        house = desk.house
        self.assertEqual(len(house), 6)
        areas = [Fraction(*house.box(name)[2]) * Fraction(*house.box(name)[3]) for name in "abcdef"]
        self.assertEqual(areas, [Fraction(600 * weight, 21) for weight in range(1, 7)])
        self.assertEqual(house.box(""), box_of(30, 20))
        for _ in lines:
            self.assertEqual(desk.say("undo"), "done")
        self.assertEqual(desk.say("worst"), "-")


if __name__ == "__main__":
    unittest.main()
