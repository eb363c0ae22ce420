"""Renewals: rows that lead the contents of a lot and keep the mark in every setting."""

from oncetested.boards import all_settings, is_setting, lot_contents, lot_step, need_lot, need_setting, nth_setting
from oncetested.errors import InvalidRenewal, InvalidSize
from oncetested.fair import need_fair
from oncetested.groups import MOST_ELEMENTS, Group
from oncetested.looks import need_contents, replaced
from oncetested.values import is_permutation, is_sequence


def need_fair_lot(board, lot):
    """A lot of a fair board, as a tuple, else an error."""
    return need_lot(need_fair(board), lot)


def wrong_row(board, lot, rows):
    """The first thing of any value that is no row, -1 for no sequence of as many as a lot's parts, or None."""
    if not is_sequence(rows) or len(rows) != len(lot):
        return -1
    for at, row in enumerate(rows):
        if not is_permutation(row, board.many):
            return at
    return None


def need_rows(board, lot, rows):
    """An error for any value that is no rows of a lot."""
    at = wrong_row(board, lot, rows)
    if at is not None:
        raise InvalidRenewal(at)


def idle_renewal(board, lot):
    """The renewal that leads all contents to themselves."""
    lot = need_fair_lot(board, lot)
    return (tuple(range(board.many)),) * len(lot)


def led_contents(rows, contents):
    """The contents to which rows lead these."""
    return tuple([row[content] for row, content in zip(rows, contents)])


def led_parts(lot, rows, setting):
    """The setting to which rows of a lot lead this one."""
    contents = list(setting)
    for part, row in zip(lot, rows):
        contents[part] = row[contents[part]]
    return tuple(contents)


def led_setting(board, lot, rows, setting):
    """The setting to which rows of a lot lead this one (any values)."""
    lot = need_fair_lot(board, lot)
    need_rows(board, lot, rows)
    return led_parts(lot, rows, need_setting(board.sizes, setting))


def first_broken(board, lot, rows):
    """The least setting whose mark rows of a lot change, or None."""
    moves = [(part, [board.steps[part] * (row[content] - content) for content in range(board.many)])
             for part, row in zip(lot, rows)]
    for number, setting in enumerate(all_settings(board.sizes)):
        led = number + sum([steps[setting[part]] for part, steps in moves])
        if board.marks[led] != board.marks[number]:
            return setting
    return None


def broken_renewal(board, lot, rows):
    """None for a renewal, else the least setting whose mark the rows change (any values)."""
    lot = need_fair_lot(board, lot)
    need_rows(board, lot, rows)
    return first_broken(board, lot, rows)


def is_renewal(board, lot, value):
    """Whether any value is a renewal of a lot."""
    lot = need_fair_lot(board, lot)
    if wrong_row(board, lot, value) is not None:
        return False
    # Here rows are tuples, in a tuple.
    if not isinstance(value, tuple) or not all([isinstance(row, tuple) for row in value]):
        return False
    return first_broken(board, lot, value) is None


def composed_rows(one, other):
    """The rows that lead as the first ones, then as the second ones."""
    return tuple([led_contents([second] * len(first), first) for first, second in zip(one, other)])


def undone_row(row):
    """The row that leads back."""
    back = [0] * len(row)
    for content, led in enumerate(row):
        back[led] = content
    return tuple(back)


def undone_rows(rows):
    """The rows that lead back."""
    return tuple([undone_row(row) for row in rows])


def forced_between(board, lot, u, v):
    """The rows that lead u to v, by the marks beside contents 0 of all other parts."""
    rows = []
    for at in range(len(lot)):
        marks = [board.marks[lot_step(board, lot, replaced(u, at, content))] for content in range(board.many)]
        beside = [board.marks[lot_step(board, lot, replaced(v, at, content))] for content in range(board.many)]
        rows.append(tuple([beside.index(mark) for mark in marks]))
    return tuple(rows)


def need_change(board, lot, u, v):
    """The lot and the two contents of any values, else an error."""
    lot = need_fair_lot(board, lot)
    return lot, need_contents(board, lot, u, "u"), need_contents(board, lot, v, "v")


def forced_rows(board, lot, u, v):
    """The only rows by which a renewal could lead u to v."""
    lot, u, v = need_change(board, lot, u, v)
    return forced_between(board, lot, u, v)


def is_parted(board, lot, u, v):
    """Whether u and v bring unlike marks with the rest at 0."""
    return board.marks[lot_step(board, lot, u)] != board.marks[lot_step(board, lot, v)]


def renewal_between(board, lot, u, v):
    """The renewal that leads u to v, or None."""
    if is_parted(board, lot, u, v):
        return None
    rows = forced_between(board, lot, u, v)
    return rows if first_broken(board, lot, rows) is None else None


def led_renewal(board, lot, u, v):
    """The renewal that leads u to v (any values), or None."""
    lot, u, v = need_change(board, lot, u, v)
    return renewal_between(board, lot, u, v)


def barred_setting(board, lot, u, v):
    """None if a renewal leads u to v, else the least setting that bars it."""
    lot, u, v = need_change(board, lot, u, v)
    if is_parted(board, lot, u, v):
        return nth_setting(board.sizes, lot_step(board, lot, u))
    return first_broken(board, lot, forced_between(board, lot, u, v))


def barred_holds(board, lot, u, v, value):
    """Whether any value is a setting that bars all renewals from leading u to v."""
    lot, u, v = need_change(board, lot, u, v)
    if not is_setting(board.sizes, value):
        return False
    if is_parted(board, lot, u, v):
        return value == nth_setting(board.sizes, lot_step(board, lot, u))
    return board(value) != board(led_parts(lot, forced_between(board, lot, u, v), value))


def lot_renewals(board, lot):
    """All renewals of a lot, ascending."""
    lot = need_fair_lot(board, lot)
    first = (0,) * len(lot)
    # A renewal is told whole by where it leads one content.
    found = [renewal_between(board, lot, first, other) for other in lot_contents(board, lot)]
    return tuple(sorted([rows for rows in found if rows is not None]))


def renewal_lots(board, lot):
    """The contents of a lot in lots that renewals lead over one another, by the least."""
    renewals = lot_renewals(board, lot)
    known = {}
    lots = []
    for contents in lot_contents(board, lot):
        if contents not in known:
            reached = sorted([led_contents(rows, contents) for rows in renewals])
            for other in reached:
                known[other] = True
            lots.append(tuple(reached))
    return tuple(lots)


def renewal_group(board, lot):
    """The group whose element a is the a-th renewal; a b is first a, then b."""
    renewals = lot_renewals(board, lot)
    if len(renewals) > MOST_ELEMENTS:
        raise InvalidSize("group")
    return Group([[renewals.index(composed_rows(one, other)) for other in renewals] for one in renewals])
