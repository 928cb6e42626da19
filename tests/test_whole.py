"""Points 16 to 21 over long rows of deeds, held against a house that is reckoned plainly."""

import random
import unittest
from collections import Counter

from calmcuts.errors import CutError, Missing, NothingLeft
from calmcuts.house import House
from calmcuts.pages import page, read_page
from plainhouse import No, Plain, answers


def one_of(chance, good, odd):
    """Mostly what is good, now and then something odd."""
    return good if chance.random() < 0.95 else chance.choice(odd)


def some_deed(chance, plain):
    names, nests = plain.names(), list(plain.nests())
    nest = chance.choice(nests)
    at = one_of(chance, chance.randrange(len(plain.children(nest)) + 1), [-1, 12, 13, 99, None, True])
    nest = one_of(chance, nest, ["zz", None] + names)
    old = one_of(chance, chance.choice(names or ["zz"]), ["", "zz", 5])
    new = one_of(chance, "".join(chance.choice("abcdefgh") for _ in range(3)), ["", "A", "abcdefghi"] + names)
    weight = one_of(chance, chance.choice([1, 2, 3, 5, 8, 40, 300, 10000]), [0, 10001, False])
    side = one_of(chance, chance.choice(["down", "across"]), ["up", None])
    sizes = [one_of(chance, chance.choice([1, 7, 20, 30, 333, 1000]), [0, 1001]) for _ in range(2)]
    bound = chance.choice([(1, 1), (3, 2), (2, 1), (5, 2), (4, 1), (10, 1), (1, 2)])
    return chance.choices(
        [("put", new, nest, at, weight), ("nest", new, nest, at), ("weigh", old, weight), ("take", old),
         ("move", old, nest, at), ("side", nest, side), ("box", *sizes), ("bound", bound), ("anew", nest), ("anew",)],
        [40, 12, 9, 5, 16, 4, 4, 5, 4, 1])[0]


def told(call, *handed):
    """What is told, or the refusal with its fields."""
    try:
        return call(*handed)
    except No as refusal:
        return ("no",) + refusal.args
    except (CutError, Missing, NothingLeft) as refusal:
        fields = dict(vars(refusal))
        return ("no", fields.pop("called")) + tuple(fields.values())


class Whole(unittest.TestCase):
    def test_long_rows_of_deeds(self):
        seen = Counter()
        for seed, many in ((1, 130), (2, 60), (3, 60), (4, 60)):
            self.check(random.Random(seed), many, seen)
        self.assertGreater(seen["told"], 150)
        for name in ("Taken", "NoNest", "BadPlace", "Full", "NoName", "NotEmpty", "Within"):
            self.assertGreater(seen[name], 0, name)

    def check(self, chance, many, seen):
        house, plain = House(30, 20), Plain(30, 20)
        for _ in range(many):
            kind = chance.random()
            if kind < 0.06:
                found = told(house.undo), told(plain.undo)
            elif kind < 0.1:
                found = told(house.redo), told(plain.redo)
            elif kind < 0.2:
                deeds = [some_deed(chance, plain) for _ in range(chance.randrange(4))]
                found = told(house.together, deeds), told(plain.together, deeds)
            else:
                deed = some_deed(chance, plain)
                found = told(house.do, deed), told(plain.do, deed)
            self.assertEqual(found[0], found[1])
            seen[found[0][1] if found[0] is not None and found[0][0] == "no" else "told"] += 1
            self.check_all(house, plain)

    def check_all(self, house, plain):
        for found, asked in answers(house, plain):
            self.assertEqual(found, asked)
        self.assertEqual(page(house), plain.page())
        read = read_page(page(house))
        self.assertTrue(read == house)
        self.assertEqual([page(read), read.steps()], [page(house), (0, 0)])


if __name__ == "__main__":
    unittest.main()
