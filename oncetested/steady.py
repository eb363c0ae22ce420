"""Renewals and movers of nets that are never laid out."""

from oncetested.boards import all_settings, need_lot
from oncetested.errors import InvalidLot, InvalidSize, Refused
from oncetested.nets import led_table, net_marks
from oncetested.renewals import need_rows
from oncetested.stays import alike_pairs, pair_tables, pairs_beneath
from oncetested.values import is_below

MOST_LED = 3


def net_broken(net, lot, rows):
    """None for a renewal, else some setting whose mark the rows of a lot change (any values)."""
    lot = need_lot(net, lot)
    need_rows(net, lot, rows)
    leaves = [alike_pairs(net.many) for _ in range(net.parts)]
    for part, row in zip(lot, rows):
        leaves[part] = {(content, led): 1 for content, led in enumerate(row)}
    tables = pair_tables(net, net, leaves)
    for one, other in tables[-1]:
        if one != other:
            return tuple([content for content, _ in pairs_beneath(net, net, tables, (one, other))])
    return None


def led_mark_row(many, table, rows):
    """The row by which the marks of a table are led where its wires are led by rows, or None if there is none."""
    led = {}
    for mark, other in zip(table, led_table(many, table, rows)):
        if led.setdefault(mark, other) != other:
            return None
    return tuple([led[mark] for mark in range(many)])


def net_row(net, told):
    """The row by which the mark of a net is led, told the rows of some parts, or None if there is none."""
    idle = tuple(range(net.many))
    rows = [told.get(part, idle) for part in range(net.parts)]
    for table, wires in net.rows:
        beneath = [rows[wire] for wire in wires]
        # What a wire brings is led by one row, or the mark is not: one content of the others tells two marks.
        row = idle if all([each == idle for each in beneath]) else led_mark_row(net.many, table, beneath)
        if row is None:
            return None
        rows.append(row)
    return rows[-1]


def mark_of(net, told):
    """The mark of a net with these contents of some parts, the others at 0."""
    return net_marks(net, [told.get(part, 0) for part in range(net.parts)])[-1]


def line_of(net, told, part):
    """The marks of all contents of a part beside these contents of others."""
    marks = []
    for content in range(net.many):
        beside = {other: told[other] for other in told}
        beside[part] = content
        marks.append(mark_of(net, beside))
    return marks


def renewal_to(net, lot, contents):
    """The renewal that leads zeros to these contents of a lot, or None."""
    told = dict(zip(lot, contents))
    if mark_of(net, told) != mark_of(net, {}):
        return None
    rows = {}
    for part in lot:
        line = line_of(net, told, part)
        rows[part] = tuple([line.index(mark) for mark in line_of(net, {}, part)])
    return tuple([rows[part] for part in lot]) if net_row(net, rows) == tuple(range(net.many)) else None


def net_renewals(net, lot):
    """All renewals of a lot of at most three parts, ascending."""
    lot = need_lot(net, lot)
    if len(lot) > MOST_LED:
        raise InvalidSize("lot")
    found = [renewal_to(net, lot, contents) for contents in all_settings([net.many] * len(lot))]
    return tuple(sorted([rows for rows in found if rows is not None]))


def net_mover_to(net, part, content):
    """The mover of a part that leads 0 to a content, or None."""
    outer = 1 if part == 0 else 0
    # Beside the part at 0 another part brings every mark, so there is seen to which all marks would be led.
    led = dict(zip(line_of(net, {part: 0}, outer), line_of(net, {part: content}, outer)))
    line = line_of(net, {}, part)
    row = tuple([line.index(led[mark]) for mark in line])
    marks = net_row(net, {part: row})
    return None if marks is None else (row, marks)


def net_movers(net, part):
    """All movers of a part, ascending (any value)."""
    if not is_below(part, net.parts):
        raise InvalidLot(0)
    if net.parts == 1:
        raise Refused(part)
    # Movers ascend with the content to which they lead 0: no two lead it to one.
    found = [net_mover_to(net, part, content) for content in range(net.many)]
    return tuple([mover for mover in found if mover is not None])
