"""Renamings of contents and marks by which one form becomes another one."""

from math import factorial

from oncetested.boards import all_settings
from oncetested.forms import rows_of
from oncetested.groups import named_rows, table_matches
from oncetested.moves import laid_rows, marked_form, tidy_form
from oncetested.nets import led_table
from oncetested.parting import need_alike
from oncetested.values import is_permutation, power_of, product_of


def plain_rows(form):
    """The rows of a form's knots, those of groups as rows of two wires."""
    rows = []
    laid_rows(form, list(range(len(form))), len(form), rows)
    return rows


def have_like_knots(one, other):
    """Whether two forms have knots of equal kinds and wires."""
    return [knot[:2] for knot in one.knots] == [knot[:2] for knot in other.knots]


def first_square(many, table, values):
    """The rows of a table by its first two wires, the others at these values."""
    names = list(range(many))
    return rows_of(many, led_table(many, table, [names, names] + [[value] for value in values[2:]]))


def line_through(many, table, values, at):
    """What a table brings by the values of one wire, the others at these values."""
    told = [[value] for value in values]
    told[at] = list(range(many))
    return led_table(many, table, told)


def is_leading(many, one, other, rows, row):
    """Whether one table becomes another one where its wires are led by rows and what it brings by a row."""
    return led_table(many, other, rows) == tuple([row[name] for name in one])


def table_leads(many, base, one, other, count):
    """All pairs (rows, row) by which one table of names becomes another one, its wires and what it brings being led."""
    leads = []
    square = first_square(many, one, [base] * count)
    names = list(range(many))
    for values in all_settings([many] * count):
        # The unit of each wire is led to one of these, and by the lines through them all else follows from the row.
        lines = [line_through(many, other, values, at) for at in range(count)]
        named = named_rows(first_square(many, other, values), lines[0], lines[1], names)
        for row in table_matches(square, named):
            rows = tuple([tuple([line.index(name) for name in row]) for line in lines])
            if is_leading(many, one, other, rows, row):
                leads.append((rows, row))
    return leads


def lead_ways(ways, wires, rows):
    """In how many ways what is beneath some wires can be renamed so that they are led by these rows."""
    # A part's contents can be renamed so that it is led by any row.
    return product_of([1 if ways[wire] is None else ways[wire].get(row, 0) for wire, row in zip(wires, rows)])


def all_ways(one, other):
    """For each row of two forms with like knots its leads, and for each wire in how many ways it is led by a row.

    For parts, which are led by any row in one way, None is told.
    """
    ways = [None] * len(one)
    leads = []
    for (wires, table), (_, beside) in zip(plain_rows(one), plain_rows(other)):
        found = table_leads(one.many, one.base, table, beside, len(wires))
        counts = {}
        for rows, row in found:
            count = lead_ways(ways, wires, rows)
            if count:
                counts[row] = counts.get(row, 0) + count
        leads.append(found)
        ways.append(counts)
    return leads, ways


def how_many_renamings(one, other):
    """The number of renamings of one form into another one."""
    need_alike(one, other)
    if not have_like_knots(one, other):
        return 0
    if not one.knots:
        return factorial(one.many)
    _, ways = all_ways(one, other)
    return sum(ways[-1].values())


def led_wires(one, other):
    """For each wire a row by which some renaming leads it, or None if there is none."""
    leads, ways = all_ways(one, other)
    if not leads:
        return [tuple(range(one.many))]
    if not ways[-1]:
        return None
    led = [None] * len(ways)
    led[-1] = min(list(ways[-1]))
    rows = plain_rows(one)
    for number in reversed(range(len(rows))):
        wires = rows[number][0]
        wanted = led[len(one) + number]
        fitting = [found for found, row in leads[number] if row == wanted and lead_ways(ways, wires, found)]
        for wire, row in zip(wires, fitting[0]):
            led[wire] = row
    return led


def some_renaming(one, other):
    """Some renaming of one form into another one, or None."""
    need_alike(one, other)
    led = led_wires(one, other) if have_like_knots(one, other) else None
    if led is None:
        return None
    rows = []
    for part in range(len(one)):
        rows.append(tuple([other.names[part].index(led[part][name]) for name in one.names[part]]))
    return tuple(rows), led[-1]


def is_row(many, value):
    """Whether any value is a permutation, as a tuple."""
    return isinstance(value, tuple) and is_permutation(value, many)


def is_renaming(one, other, value):
    """Whether any value is a renaming of one form into another one."""
    need_alike(one, other)
    if not isinstance(value, tuple) or len(value) != 2:
        return False
    rows, row = value
    if not isinstance(rows, tuple) or len(rows) != len(one) or not is_row(one.many, row):
        return False
    if not all([is_row(one.many, each) for each in rows]):
        return False
    names = [[other.names[part][content] for content in led] for part, led in enumerate(rows)]
    return tidy_form(other.many, names, plain_rows(other)) == marked_form(one, row)


def how_many_alike(form):
    """How many boards a form can be renamed into, its own too."""
    return power_of(factorial(form.many), len(form) + 1) // how_many_renamings(form, form)
