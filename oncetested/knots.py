"""Lots as wires with names, the groups of knots, and how names beside another base are told."""

from math import factorial

from oncetested.boards import Board, all_settings, lot_contents, need_lot, need_setting, rest_of, setting_number
from oncetested.errors import InvalidBoard, InvalidRow, InvalidSize, Refused
from oncetested.fair import need_fair
from oncetested.groups import Group, group_matches, need_element
from oncetested.looks import mark_at
from oncetested.readings import one_test
from oncetested.trades import need_few
from oncetested.values import is_between, is_integer, is_permutation, is_sequence, power_of, union_of

MOST_ROWS = 8


def need_wires(board, lots):
    """One-test lots of a fair board, as tuples, else an error."""
    need_fair(board)
    wires = [need_lot(board, lot) for lot in lots]
    for lot in wires:
        if not one_test(board, lot):
            raise Refused(lot)
    return wires


def names_beside(board, lot, base):
    """The marks of all contents of a lot, all else as in a base."""
    outside = [base[part] for part in rest_of(board, lot)]
    return tuple([mark_at(board, lot, contents, outside) for contents in lot_contents(board, lot)])


def wire_names(board, lot, base):
    """The names of all contents of a one-test lot beside a base, ascending (any values)."""
    lot = need_wires(board, [lot])[0]
    need_setting(board.sizes, base)
    return names_beside(board, lot, base)


def named_contents(board, lot, base):
    """For each name beside a base the first contents of a lot that have it."""
    names = names_beside(board, lot, base)
    contents = lot_contents(board, lot)
    return [contents[names.index(name)] for name in range(board.many)]


def wire_marks(board, wires, base):
    """The marks by all names of some lots, all else as in a base."""
    named = [named_contents(board, lot, base) for lot in wires]
    marks = []
    for names in all_settings([board.many] * len(wires)):
        setting = list(base)
        for at, lot in enumerate(wires):
            for part, content in zip(lot, named[at][names[at]]):
                setting[part] = content
        marks.append(board.marks[setting_number(board.sizes, setting)])
    return marks


def wire_board(board, lots, base):
    """The board with a part for each of some one-test lots, whose contents are their names beside a base."""
    wires = need_wires(board, lots)
    need_setting(board.sizes, base)
    return Board(board.many, (board.many,) * len(wires), wire_marks(board, wires, base))


def square_of(board, wires, base):
    """The rows of the board of two lots as wires."""
    marks = wire_marks(board, wires, base)
    return tuple([tuple(marks[at:at + board.many]) for at in range(0, len(marks), board.many)])


def wire_square(board, one, other, base):
    """The rows of the wire board of two one-test lots."""
    wires = need_wires(board, [one, other])
    need_setting(board.sizes, base)
    return square_of(board, wires, base)


def knot_group(board, lots, base):
    """The group of three or more one-test lots of which each two neighbours make a one-test lot."""
    wires = need_wires(board, lots)
    need_setting(board.sizes, base)
    for at in range(len(wires) - 1):
        if not one_test(board, union_of(wires[at:at + 2])):
            raise Refused(at)
    return Group(square_of(board, wires[:2], base))


def other_naming(group, mark):
    """The group of the products x undone(mark) y."""
    need_element(group, mark)
    back = group.undone[mark]
    numbers = list(range(group.size))
    return Group([[group.product((x, back, y)) for y in numbers] for x in numbers])


def naming_row(board, lot, base, other):
    """For each name of contents of a lot beside one base their name beside another one."""
    lot = need_wires(board, [lot])[0]
    need_setting(board.sizes, base)
    need_setting(board.sizes, other)
    names = names_beside(board, lot, base)
    beside = names_beside(board, lot, other)
    return tuple([beside[names.index(name)] for name in range(board.many)])


def group_board(group, rows):
    """The board whose mark is the product of the elements of rows, one for each part."""
    if not is_sequence(rows) or not 1 <= len(rows) <= MOST_ROWS:
        raise InvalidRow(-1)
    for at, row in enumerate(rows):
        if not is_permutation(row, group.size):
            raise InvalidRow(at)
    if not is_between(group.size, 2, 8):
        raise InvalidBoard("many")
    sizes = (group.size,) * len(rows)
    need_few(sizes)
    marks = [group.unit]
    for row in rows:
        marks = [group.rows[done][x] for done in marks for x in row]
    return Board(group.size, sizes, marks)


def knot_boards(group, parts):
    """How many boards of so many parts are boards of groups that have a match with this one."""
    if not is_integer(parts) or parts < 2:
        raise InvalidSize("parts")
    boards = power_of(factorial(group.size), parts + 1)
    return boards // (len(group_matches(group, group)) * power_of(group.size, parts))
