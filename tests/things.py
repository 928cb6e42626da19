"""What several tests hand in: good boxes, and things that are no boxes, weights, sides, bounds, sizes or kept rows."""


class Prickly:
    """A thing of another kind that can't be compared, counted, gone over or tested."""

    def __eq__(self, other):
        raise AssertionError("compared")

    __lt__ = __len__ = __iter__ = __bool__ = __getitem__ = __hash__ = __eq__


GREAT = 10 ** 200 - 1
NUMBERS = ((0, 1), (0, 1), (3, 1), (2, 1))
GOOD = [
    NUMBERS,
    ((-1, 2), (7, 3), (1, 100), (5, 1)),
    ((-GREAT, 1), (1, GREAT), (GREAT, 10 ** 199), (1, GREAT)),
    ((0, 1), (-4, 1), (1, 1), (1, 1)),
]
OTHER_KINDS = [None, True, False, 0, 1, -1, 3.5, "", "box", b"box", [], (), {}, {1, 2}, {"a": 1}, object(), len, int,
               Prickly(), [NUMBERS], (NUMBERS,), range(4), "abcd", (1, 2, 3, 4), (None,) * 4, ("0", "0", "1", "1")]
BAD = OTHER_KINDS + [
    list(NUMBERS), [list(number) for number in NUMBERS], tuple(list(number) for number in NUMBERS),
    ([0, 1], (0, 1), (3, 1), (2, 1)), ((0, 1), (0, 1), (3, 1), [2, 1]),
    NUMBERS[:3], NUMBERS + ((1, 1),), NUMBERS[:1],
    ((0, 2), (0, 1), (3, 1), (2, 1)), ((2, 4), (0, 1), (3, 1), (2, 1)), ((0, 1), (3, 3), (3, 1), (2, 1)),
    ((0, 1), (0, 1), (6, 4), (2, 1)), ((0, 1), (0, 1), (3, 1), (4, 2)),
    ((0, -1), (0, 1), (3, 1), (2, 1)), ((1, -2), (0, 1), (3, 1), (2, 1)), ((0, 1), (0, 1), (-3, -1), (2, 1)),
    ((0, 0), (0, 1), (3, 1), (2, 1)), ((1, 0), (0, 1), (3, 1), (2, 1)), ((0, 1), (0, 1), (3, 1), (1, 0)),
    ((False, 1), (0, 1), (3, 1), (2, 1)), ((0, True), (0, 1), (3, 1), (2, 1)), ((0, 1), (0, 1), (True, 1), (2, 1)),
    ((0, 1), (0, 1), (3, 1), (2, True)), (True, False, True, True), ((0, 1), (0, 1), True, (2, 1)),
    ((0, 1), (0, 1), (0, 1), (2, 1)), ((0, 1), (0, 1), (3, 1), (0, 1)), ((0, 1), (0, 1), (-3, 1), (2, 1)),
    ((0, 1), (0, 1), (3, 1), (-1, 2)), ((0, 1), (0, 1), 3, 2), (0, 0, 3, 2),
    ((0, 1), (0, 1), (3, 1), (2, 1, 1)), ((0, 1), (0,), (3, 1), (2, 1)), ((0, 1), (0, 1), (3, 1), ()),
    ((0, 1), (0, 1), (3, 1), None), ((0, 1), (0, 1), (3, 1), "21"), ((0, 1), (0, 1), (3.0, 1), (2, 1)),
    ((0, 1), (0, 1), ("3", 1), (2, 1)), ((0, 1), (0, 1), (3, None), (2, 1)), (Prickly(),) * 4,
    ((Prickly(), Prickly()),) * 4, {0: (0, 1), 1: (0, 1), 2: (3, 1), 3: (2, 1)}]
BAD_WEIGHTS = [
    [], (), [1] * 13, (1,) * 13, [1] * 100000, [0], [1, 0], [-1], [1, -5], [400001], [1, 400001, 1], [GREAT], [True],
    [1, True], [False], ["1"], [None], [1.0], [[1]], [(1, 1)], (1, None), [Prickly()], None, True, False, 0, 1, 5, "",
    "1", "12", b"12", {1: 1}, {1, 2}, {}, range(1, 3), len, object(), Prickly(), 1.5]
BAD_SIDES = ["", "up", "Down", "DOWN", "ACROSS", "down ", " down", "across\n", "d", "downacross", None, True, False, 0,
             1, ["down"], ("down",), ("down", "across"), {"down": 1}, {"down"}, b"down", object(), str, Prickly()]
BAD_BOUNDS = [
    (0, 1), (1, 2), (-1, 1), (-2, 1), (GREAT - 1, GREAT), (2, 2), (4, 2), (1, 1, 1), (1,), (), (2, 0), (0, 0), (-2, -1),
    (3, -1), (True, 1), (2, True), (1, None), ("2", "1"), (2.0, 1), [2, 1], [], 2, 1, 1.5, True, False, None, "2",
    "2/1", b"2", {2: 1}, {1, 2}, ((2, 1), 1), ((2, 1), (1, 1)), object(), int, len, Prickly(), (Prickly(), 1),
    (2, Prickly())]
# For three things.
BAD_SIZES = [
    (), (1,), (1, 1), (4,), (2, 2), (1, 1, 1, 1), (0, 3), (3, 0), (1, 0, 2), (-1, 4), (4, -1), (2, 3, -2), (GREAT,),
    (GREAT, 3 - GREAT), (True, 2), (2, True), (1, 1, True), (3, False), (3.0,), ("3",), (None,), (1, None), ((3,),),
    ([1], 2), [3], [1, 2], [], {3: 1}, {3}, {1, 2}, range(1, 3), 3, 1, True, False, None, "3", "12", b"3", object(),
    int, len, Prickly(), (Prickly(),), (1, Prickly()), (1,) * 100000]
# For three things.
BAD_KEPT = [
    (), ((0, 1),), [[0, 1]], [(0, 1), [1, 1]], ([0, 1],), [(0, 1), (0, 1)], [(0, 1), (1, 2), (0, 1)], [(0, 3)] * 100000,
    [(-1, 1)], [(-1, 4)], [(3, 1)], [(4, 1)], [(0, 4)], [(1, 3)], [(2, 2)], [(0, 0)], [(3, 0)], [(1, 0)], [(1, -1)],
    [(3, -1)], [(0, 1), (1, 0)], [(True, 1)], [(False, 1)], [(0, True)], [(1, 1), (0, True)], [(0, 1), (0, True)],
    [(0,)], [(0, 1, 1)], [()], [(0, 1), ()], [(GREAT, 1)], [(0, GREAT)], [(-GREAT, GREAT)], [(GREAT, -GREAT)], [None],
    [0], [0, 1], ["01"], [b"01"], [{0: 0, 1: 1}], [{0, 1}], [("0", "1")], [(0, "1")], [(0, None)], [(None, 1)],
    [(0.0, 1)], [(0, 1.0)], [((0,), (1,))], [Prickly()], [(Prickly(), 1)], [(0, Prickly())], [(0, 1), Prickly()],
    None, True, False, 0, 1, "", "01", b"", {}, {0: 1}, {(0, 1): True}, {(0, 1)}, range(2), object(), list, len,
    Prickly()]


def named(thing):
    return "prickly" if isinstance(thing, Prickly) else ascii(thing)[:60] if is_plain(thing) else "prickly within"


def is_plain(thing):
    if isinstance(thing, (tuple, list)):
        return all(is_plain(part) for part in thing)
    return not isinstance(thing, Prickly)
