"""One-test lots of great nets, told by a form that is read off their rows."""

from itertools import combinations

from oncetested.boards import Board, all_settings, need_lot
from oncetested.enough import counted_first
from oncetested.errors import Refused
from oncetested.forms import form_lots, form_shape
from oncetested.moves import laid_rows, tidy_form
from oncetested.nets import MOST_WIRES, Net, lean_net, led_table
from oncetested.readings import one_test
from oncetested.shapes import inner_hull, is_inner


def split_pair(many, table):
    """Two places of a table of three wires that are a one-test lot of it, or None."""
    board = Board(many, (many,) * 3, table)
    for pair in combinations([0, 1, 2], 2):
        if one_test(board, pair):
            return pair
    return None


def third_place(pair):
    """The place of three beside two."""
    return 3 - pair[0] - pair[1]


def split_rows(many, table, pair):
    """The tables of two rows that make one of three wires: of the pair, and of what it brings with the third one."""
    names = list(range(many))
    third = third_place(pair)
    told = [names, names, names]
    told[third] = [0]
    inner = led_table(many, table, told)
    outer = []
    for name in names:
        # Contents of the pair that bring one mark beside 0 of the third bring one beside all its contents.
        contents = list(divmod(inner.index(name), many))
        contents.insert(third, 0)
        told = [[content] for content in contents]
        told[third] = names
        outer.extend(led_table(many, table, told))
    return inner, tuple(outer)


def plain_net(net):
    """Some plain net alike: none of its rows can be split or left out."""
    lean = lean_net(net)
    wires = list(range(net.parts))
    rows = []
    for table, read in lean.rows:
        read = [wires[wire] for wire in read]
        pair = split_pair(net.many, table) if len(read) == MOST_WIRES else None
        if pair is not None:
            inner, table = split_rows(net.many, table, pair)
            rows.append((inner, (read[pair[0]], read[pair[1]])))
            read = [net.parts + len(rows) - 1, read[third_place(pair)]]
        rows.append((table, tuple(read)))
        wires.append(net.parts + len(rows) - 1)
    return Net(net.many, net.parts, rows)


def net_form(net):
    """The form of a net's marks."""
    names = [tuple(range(net.many))] * net.parts
    return tidy_form(net.many, names, [(wires, table) for table, wires in net.rows])


def net_strong(net):
    """All strong lots, those of fewer parts first, then ascending."""
    return tuple(sorted(form_lots(net_form(net)), key=counted_first))


def pair_readers(net, wire):
    """The rows of two wires that read a wire."""
    return [row for row in net.rows if len(row[1]) == 2 and wire in row[1]]


def look_board(net, wire):
    """The board of what both wires of a row of two bring, and the wire beside it, and of the mark of the row above."""
    inner = [row for number, row in enumerate(net.rows) if net.parts + number == wire and len(row[1]) == 2]
    readers = pair_readers(net, wire)
    if not inner or not readers:
        raise Refused(wire)
    table = inner[0][0]
    above, wires = readers[0]
    marks = []
    for left, right, beside in all_settings([net.many] * 3):
        mark = table[left * net.many + right]
        one, other = (mark, beside) if wires[0] == wire else (beside, mark)
        marks.append(above[one * net.many + other])
    return Board(net.many, (net.many,) * 3, marks)


def form_net(form):
    """Some net with a form's marks."""
    for number, (kind, wires, _) in enumerate(form.knots):
        if kind == "bare" and len(wires) > MOST_WIRES:
            raise Refused(number)
    parts = len(form)
    rows = [((part,), form.names[part]) for part in range(parts)]
    laid_rows(form, [parts + part for part in range(parts)], parts, rows)
    return lean_net(Net(form.many, parts, [(table, wires) for wires, table in rows]))


def net_tested(net, lot):
    """Whether a lot of a net's parts is one-test."""
    lot = need_lot(net, lot)
    return is_inner(form_shape(net_form(net)), lot)


def net_hull(net, lot):
    """The least one-test lot above a lot of a net's parts."""
    lot = need_lot(net, lot)
    return inner_hull(form_shape(net_form(net)), lot)
