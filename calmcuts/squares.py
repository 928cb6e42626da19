"""Boxes drawn on columns by rows of squares, each square with just one thing."""

from calmcuts.boxes import check_lengths
from calmcuts.errors import BadSizes
from calmcuts.parts import is_number, part, plus, times

MOST_SQUARES = 40


def drawn(boxes, wide, high, columns, rows):
    """The rows of squares, each a list of the names of the boxes that have them."""
    check_lengths(wide, high)
    check_squares(columns, rows)
    # The boxes overlap nowhere and leave nothing free, so that each square here is given a name once.
    found = [[""] * columns for _ in range(rows)]
    for name, (left, top, width, height) in boxes.items():
        first_column, column_behind = _lines(left, width, columns, wide)
        first_row, row_behind = _lines(top, height, rows, high)
        for row in range(first_row, row_behind):
            for column in range(first_column, column_behind):
                found[row][column] = name
    return found


def check_squares(columns, rows):
    """Refuse what are no numbers of squares."""
    if not all([is_number(many) and 1 <= many <= MOST_SQUARES for many in (columns, rows)]):
        raise BadSizes()


def _lines(begin, length, many, whole):
    """The lines between squares to which the two edges of a box go."""
    return (_nearest_line(begin, many, whole), _nearest_line(plus(begin, length), many, whole))


def _nearest_line(edge, many, whole):
    """The number of the line nearest to an edge, of two as near the lesser one."""
    above, below = times(edge, part(many, whole))
    # Rounded up from a half less, so that what is just between two lines goes to the lesser one.
    return -((below - 2 * above) // (2 * below))
