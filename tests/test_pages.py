"""Point 21: pages written and read, BadText with its line; point 2 for these."""

import unittest

from calmcuts.errors import BadText, CutError, NothingLeft
from calmcuts.house import House
from calmcuts.pages import page, read_page
from test_deeds import deep, full_of_names
from test_house import asked, some_house

EMPTY = "box 30 20 2\nnest - down - -\n"
SOME = ("box 30 20 2\nnest - down p,a:6,n,e:3 2+1\nnest p down - -\nnest n down b:4,m,o 2\nnest m down c:1,d:2 1+1\n"
        "nest o down - -\n")
LINES = SOME.split("\n")[:-1]


def with_line(at, line):
    return "".join(told + "\n" for told in LINES[:at] + [line] + LINES[at + 1:])


def nest_line(children, sizes):
    return f"box 5 5 2\nnest - down {children} {sizes}\n"


class Written(unittest.TestCase):
    def test_plain(self):
        self.assertEqual(page(House(30, 20)), EMPTY)
        self.assertEqual(page(House(1, 1000, bound=(7, 3), side="across")), "box 1 1000 7/3\nnest - across - -\n")
        house = House(4, 2)
        house.put("a", "", 0, 10000)
        self.assertEqual(page(house), "box 4 2 2\nnest - down a:10000 1\n")
        house.nest("abcdefgh", "", 0)
        house.turn("abcdefgh", "across")
        self.assertEqual(page(house), "box 4 2 2\nnest - down abcdefgh,a:10000 1\nnest abcdefgh across - -\n")

    def test_each_nest_is_followed_by_its_own(self):
        found = page(some_house())
        self.assertEqual([line.split(" ")[1] for line in found.split("\n")[1:-1]], ["-", "p", "n", "m", "o"])
        self.assertTrue(read_page(SOME).names() == some_house().names())
        house = some_house()
        house.move("p", "o", 0)
        house.move("n", "", 2)
        self.assertEqual([line.split(" ")[1] for line in page(house).split("\n")[1:-1]], ["-", "n", "m", "o", "p"])

    def test_it_asks_only(self):
        house = some_house()
        told = asked(house)
        self.assertEqual(page(house), page(house))
        self.assertEqual(page(house=house), page(house))
        self.assertEqual(asked(house), told)


class Read(unittest.TestCase):
    def test_back_and_forth(self):
        great = House(999, 1, bound=(10 ** 30 - 1, 10 ** 30 - 2), side="across")
        great.together([("put", "abcdefgh"[:at + 1], "", at, 10000 - at) for at in range(8)])
        house = some_house()
        houses = [House(30, 20), House(1, 1), great, house, full_of_names(), deep()]
        for deed in (("side", "m", "across"), ("bound", (1, 1)), ("anew", "n"), ("move", "m", "", 0), ("take", "d"),
                     ("take", "c"), ("take", "b")):
            house = house.twin()
            house.do(deed)
            houses.append(house)
        for house in houses:
            read = read_page(page(house))
            self.assertIs(type(read), House)
            self.assertTrue(read == house)
            self.assertEqual(page(read), page(house))
            self.assertEqual(read.steps(), (0, 0))
            for call in (read.undo, read.redo):
                self.assertRaises(NothingLeft, call)

    def test_all_that_it_tells(self):
        house = read_page(SOME)
        self.assertEqual(page(house), SOME)
        self.assertEqual([house.size(), house.bound(), house.names()], [(30, 20), (2, 1), list("abcdemnop")])
        self.assertEqual([house.children(nest) for nest in ("", "n", "m", "o", "p")],
                         [["p", "a", "n", "e"], ["b", "m", "o"], ["c", "d"], [], []])
        self.assertEqual([house.rows(nest) for nest in ("", "n", "m", "o", "p")],
                         [[["a", "n"], ["e"]], [["b", "m"]], [["c"], ["d"]], [], []])
        self.assertEqual([house.weight(name) for name in "abcden"], [6, 4, 1, 2, 3, 7])
        self.assertEqual(read_page(text=SOME).boxes(), house.boxes())

    def test_sizes_stand_till_a_deed(self):
        text = "box 4 4 1\nnest - down a:1,b:1,c:1,d:1 1+3\n"
        house = read_page(text)
        self.assertEqual(house.rows(""), [["a"], ["b", "c", "d"]])
        self.assertEqual(house.worst(), (4, 1))
        self.assertEqual(house.boxes()["a"], ((0, 1), (0, 1), (4, 1), (1, 1)))
        self.assertEqual(page(house), text)
        twin = house.twin()
        self.assertEqual(twin.rows(""), [["a"], ["b", "c", "d"]])
        self.assertEqual(house.bind((1, 1)), (2, ["a", "b", "c", "d"]))
        self.assertEqual(house.rows(""), [["a", "b"], ["c", "d"]])
        house.undo()
        self.assertEqual(page(house), text)
        self.assertTrue(house == twin)
        self.assertRaises(CutError, house.bind, (1, 2))
        self.assertEqual(page(house), text)

    def test_names_like_words(self):
        text = "box 5 5 2\nnest - down nest,box:1,down 1\nnest nest across - -\nnest down down - -\n"
        self.assertEqual(page(read_page(text)), text)


class Refused(unittest.TestCase):
    def refused(self, at, *texts):
        for text in texts:
            with self.subTest(text[:200]):
                with self.assertRaises(BadText) as caught:
                    read_page(text)
                self.assertEqual(vars(caught.exception), {"called": "BadText", "at": at})

    def test_the_first_line(self):
        self.refused(0, *(f"{line}\nnest - down - -\n" for line in (
            "", "box", "box 30 20", "box 30 20 2 ", " box 30 20 2", "box  30 20 2", "box 30 20  2", "box 30 20 2 2",
            "box\n30 20 2", "Box 30 20 2", "bax 30 20 2", "30 20 2", "nest - down - -", "box 0 20 2", "box 30 0 2",
            "box 1001 20 2", "box 30 1001 2", "box -3 20 2", "box +3 20 2", "box 030 20 2", "box 30 020 2", "box 00 1 2",
            "box 1.0 20 2", "box a 20 2", "box 30 - 2", "box 30,20 2", "box 3/1 20 2", "box " + "9" * 6000 + " 20 2",
            "box 30 " + "1" * 15000 + " 2", "box 0000001 20 2", "box 1000000 20 2", "box 30 20 1/2", "box 30 20 0",
            "box 30 20 -2", "box 30 20 2/1", "box 30 20 4/2", "box 30 20 02", "box 30 20 3/02", "box 30 20 +2",
            "box 30 20 2/", "box 30 20 /2", "box 30 20 2/0", "box 30 20 two", "box 30 20 -", "box 30 20 1.5",
            "box 30 20 1" + "0" * 30, "box 30 20 1" + "0" * 30 + "/" + "9" * 30, "box 30 20 " + "9" * 31,
            "box 30 20 " + "9" * 18000)))

    def test_first_lines_that_may_be(self):
        for line in ("box 1 1 1", "box 1000 1000 1", "box 30 20 3/2", "box 30 20 " + "9" * 30,
                     "box 30 20 1" + "0" * 29 + "/" + "9" * 29):
            self.assertEqual(page(read_page(line + "\nnest - down - -\n")), line + "\nnest - down - -\n")

    def test_the_forms_of_nests(self):
        for at in range(1, 6):
            words = LINES[at].split(" ")
            wrong = ["", " ".join(words[:4]), " ".join(words + ["-"]), " ".join(words) + " ", " " + " ".join(words),
                     "  ".join(words), " ".join(["Nest"] + words[1:]), " ".join(["box"] + words[1:]),
                     " ".join(words[1:]), " ".join(words).replace("down", "up"),
                     " ".join(words).replace("down", "Down"), " ".join(words).replace("down", "-"),
                     " ".join(words).replace("down", "DOWN"), " ".join(words).replace("down", "downacross"),
                     "\t".join(words), "box 30 20 2"]
            for name in ("", "z", "nn", "-", "a", "p", "n", "m", "o", "--"):
                if name != words[1]:
                    wrong.append(" ".join([words[0], name] + words[2:]))
            self.refused(at, *(with_line(at, line) for line in wrong))

    def test_children(self):
        self.refused(1, *(nest_line(children, "1") for children in (
            "", "a:", ":5", ":", "a:0", "a:10001", "a:-1", "a:+1", "a:01", "a:1.0", "a:x", "a:5:5", "a:5,",
            ",a:5", "a:5,,b:5", "a:5;b:5", "A:5", "aB:5", "abcdefghi:5", "a1:5", "a-:5", "-:5", "a:5,-", "-,a:5", "--",
            "a:" + "9" * 15000, "a:0000005", "a:1000000", "a:00", "a:5,a:5", "a:5,b:5,a:6", "a,a", "a:5,a", "a,b:1,a")))
        # What has no weight there is a nest, whose line is due.
        self.refused(2, nest_line("a", "-"), nest_line("a", "1"), nest_line("a,b:1", "1"))

    def test_names_twice_over_lines(self):
        self.refused(1, with_line(1, "nest - down p,a:6,n,p 2+1"), with_line(1, "nest - down p,p:6,n,e:3 2+1"))
        self.refused(3, with_line(3, "nest n down b:4,m,a 2"), with_line(3, "nest n down b:4,m,e:2 2+1"),
                     with_line(3, "nest n down b:4,m,n 2"), with_line(3, "nest n down b:4,m,p 2"))
        self.refused(4, with_line(4, "nest m down c:1,o 1"), with_line(4, "nest m down m:1,d:2 1+1"),
                     with_line(4, "nest m down c:1,b:2 1+1"))
        self.refused(5, with_line(5, "nest o down a:1 1"), with_line(5, "nest o down c:1 1"))

    def test_sizes_forms(self):
        self.refused(1, *(nest_line("a:5,b:5", sizes) for sizes in (
            "", "0", "0+2", "2+0", "1+", "+1", "+", "1++1", "1,1", "-1+3", "1+-", "-+-", "--", "01+1", "1+01", "02",
            "1.0+1", "x", "1+x", "+2", "00", "1 +1", "0" * 15000)))

    def test_sizes_that_do_not_come_to_the_number(self):
        self.refused(1, *(nest_line("a:5,b:5", sizes) for sizes in (
            "-", "1", "3", "1+1+1", "2+1", "1+2", "1" + "0" * 14000, "9" * 6000, "99", "100", "4300",
            "+".join(["1"] * 5000), "1+1+" + "9" * 5000)))
        for many in range(1, 13):
            children = ",".join(f"{name}:1" for name in "abcdefghijkl"[:many])
            self.refused(1, *(nest_line(children, sizes) for sizes in (
                str(many - 1 or "-"), str(many + 1), "99", "100", "1" + "0" * 5000, "9" * 5000, f"{many}+100",
                "11" * 50, "12" * 50, "1+" * 14 + "1")))
        self.refused(1, nest_line("-", "1"), nest_line("-", "1+1"), nest_line("-", "9" * 9000))
        self.refused(2, "box 5 5 2\nnest - down a -\nnest a down - 1\n",
                     "box 5 5 2\nnest - down a -\nnest a down - " + "1" * 6000 + "\n")
        self.refused(1, "box 5 5 2\nnest - down a 1\nnest a down - -\n")
        self.refused(1, "box 5 5 2\nnest - down a,b -\nnest a down - -\nnest b down c:1 1\n")
        self.refused(1, "box 5 5 2\nnest - down a,b 2\nnest a down - -\nnest b down c:1 1\n")
        text = "box 5 5 2\nnest - down a,b 1\nnest a down - -\nnest b down c:1 1\n"
        self.assertEqual(page(read_page(text)), text)

    def test_the_first_line_of_such_sizes(self):
        self.refused(1, with_line(1, "nest - down p,a:6,n,e:3 2").replace("m down c:1,d:2 1+1", "m down c:1,d:2 1"))
        self.refused(3, with_line(3, "nest n down b:4,m,o 3").replace("m down c:1,d:2 1+1", "m down c:1,d:2 1"))
        self.refused(4, with_line(4, "nest m down c:1,d:2 1"))
        self.refused(5, with_line(5, "nest o down - 1"))

    def test_forms_ahead_of_such_sizes(self):
        bad = with_line(1, "nest - down p,a:6,n,e:3 1")
        self.refused(1, bad)
        self.refused(5, bad[:-1], bad[:-2], bad.replace("nest o down - -\n", ""),
                     bad.replace("nest o down - -", "nest o down - 0"), bad.replace("nest o", "nest q"),
                     bad.replace("nest o down -", "nest o down a:1"))
        self.refused(6, bad + "\n", bad + "x", bad + "nest q down - -\n")
        self.refused(4, bad.replace("c:1,d:2", "c:1,d:0"), "\n".join(bad.split("\n")[:4]) + "\n")

    def test_line_feeds_that_lack(self):
        for at in range(6):
            self.refused(at, "\n".join(LINES[:at + 1]), "\n".join(LINES[:at + 1])[:-1])
        self.refused(0, "", "box 30 20 2", "x", "box 30 20 2 nest - down - -\n")
        self.refused(1, EMPTY[:-1], "box 30 20 2\nx", "box 30 20 2\nnest")

    def test_lines_that_lack(self):
        for at in range(6):
            self.refused(at, "".join(line + "\n" for line in LINES[:at]))
        self.refused(4, "".join(line + "\n" for line in LINES[:4] + LINES[5:]))

    def test_lines_more(self):
        self.refused(6, SOME + "\n", SOME + "x", SOME + "x\n", SOME + " ", SOME + "nest z down - -\n", SOME + LINES[5],
                     SOME + LINES[5] + "\n", SOME + "\n\n", SOME + SOME)
        self.refused(2, EMPTY + "\n", EMPTY + "nest - down - -\n", EMPTY + EMPTY)
        self.refused(1, "box 30 20 2\n\nnest - down - -\n")
        self.refused(0, "\n" + SOME, "\n", "\n\n")

    def test_too_many_children(self):
        twelve = ",".join(f"{name}:1" for name in "abcdefghijkl")
        self.assertEqual(len(read_page(nest_line(twelve, "12"))), 12)
        self.refused(1, nest_line(twelve + ",m:1", "13"), nest_line(twelve + ",m", "12"),
                     nest_line("m," + twelve, "12"), nest_line(",".join(["a:1"] * 4000), "12"))
        self.refused(1, nest_line(",".join("abcdefghijklm"), "-"))

    def test_too_many_names(self):
        text = page(full_of_names())
        house = read_page(text)
        self.assertEqual(len(house.names()), 40)
        last = text.split("\n")[-2]
        self.assertTrue(last.startswith("nest na"))
        first = text.split("\n")[1].split(" ")
        self.refused(5, text.replace(first[3] + " " + first[4], "z:1," + first[3] + " 1+" + first[4]))
        lines = text.split("\n")
        self.assertEqual(lines[2], "nest nd down - -")
        self.refused(5, text.replace(lines[2], "nest nd down z:1 1"))
        self.refused(6, text.replace(lines[2], "nest nd down z -\nnest z down - -"))

    def test_too_deep(self):
        text = page(deep())
        self.assertEqual(page(read_page(text)), text)
        self.assertEqual(text.split("\n")[5], "nest d down - -")
        self.refused(5, text.replace("nest d down - -", "nest d down z:1 1"),
                     text.replace("nest d down - -", "nest d down z -\nnest z down - -"))
        fine = text.replace("nest c down d -", "nest c down d,z -\nnest d down - -\nnest z down - -", 1)
        fine = fine.replace("nest z down - -\nnest d down - -\n", "nest z down - -\n")
        self.assertEqual(page(read_page(fine)), fine)


if __name__ == "__main__":
    unittest.main()
