"""Squares of marks, the groups behind them, and how one square is led to another one."""

from oncetested.errors import InvalidRow, InvalidSize, InvalidTable
from oncetested.groups import Group, named_rows, need_square, open_triple, table_matches
from oncetested.values import is_below, is_permutation, wrong_place


def is_square(value):
    """Whether any value is a square."""
    try:
        need_square(value)
    except InvalidTable:
        return False
    return True


def column_of(rows, y):
    """The marks of a column."""
    return tuple([row[y] for row in rows])


def named_by(rows, x, y):
    """The square that names rows by their marks in column y, columns by their marks in row x."""
    return named_rows(rows, column_of(rows, y), rows[x], list(range(len(rows))))


def named_square(rows, x, y):
    """The square with each row named by its mark in column y, each column by its mark in row x (any values)."""
    rows = need_square(rows)
    if not is_below(x, len(rows)):
        raise InvalidSize("x")
    if not is_below(y, len(rows)):
        raise InvalidSize("y")
    return named_by(rows, x, y)


def square_group(rows):
    """The group of the square named by its first row and column, or None."""
    named = named_by(need_square(rows), 0, 0)
    return Group(named) if open_triple(named) is None else None


def open_square(rows):
    """Some eight numbers that show a square has no group, or None."""
    rows = need_square(rows)
    named = named_by(rows, 0, 0)
    triple = open_triple(named)
    if triple is None:
        return None
    # Beside the unit, x (y z) and (x y) z are the last marks of two squares whose other marks are alike.
    x, y, z = triple
    unit = rows[0][0]
    lines = column_of(rows, 0)
    places = rows[0]
    one = (lines.index(y), lines.index(named[x][y]), places.index(unit), places.index(z))
    other = (lines.index(unit), lines.index(x), places.index(y), places.index(named[y][z]))
    return one + other


def open_holds(rows, value):
    """Whether any value shows that a square has no group."""
    rows = need_square(rows)
    if not isinstance(value, tuple) or wrong_place([len(rows)] * 8, value) is not None:
        return False
    a, a1, b, b1, c, c1, d, d1 = value
    alike = [rows[a][b] == rows[c][d], rows[a][b1] == rows[c][d1], rows[a1][b] == rows[c1][d]]
    return all(alike) and rows[a1][b1] != rows[c1][d1]


def led_square(rows, lines, places, marks):
    """The square with the mark marks[rows[x][y]] in row lines[x] and column places[y]."""
    rows = need_square(rows)
    for at, row in enumerate((lines, places, marks)):
        if not is_permutation(row, len(rows)):
            raise InvalidRow(at)
    return named_rows(rows, lines, places, marks)


def rows_between(one, other, x, y):
    """The three rows that lead one square to another one, row 0 to row x and column 0 to column y, or None."""
    matches = table_matches(named_by(one, 0, 0), named_by(other, x, y))
    if not matches:
        return None
    marks = matches[0]
    column = column_of(other, y)
    lines = tuple([column.index(marks[row[0]]) for row in one])
    places = tuple([other[x].index(marks[mark]) for mark in one[0]])
    return lines, places, marks


def square_match(one, other):
    """Some three rows that lead one square to another one, or None."""
    one = need_square(one)
    other = need_square(other)
    size = len(one)
    if len(other) != size:
        return None
    for x in range(size):
        for y in range(size):
            found = rows_between(one, other, x, y)
            if found is not None:
                return found
    return None
