"""Blocks of boards of two marks: the mark is the parity of one bit for each."""

from oncetested.boards import all_settings, is_setting, lot_contents, lot_sizes, setting_number
from oncetested.errors import InvalidLot, Refused
from oncetested.looks import replaced
from oncetested.values import is_below, wrong_place


def need_two_marks(board):
    """An error for a board of another number of marks."""
    if board.many != 2:
        raise Refused(board.many)


def need_parts(board, one, other):
    """An error for a board of another number of marks, and for any values that are no parts."""
    need_two_marks(board)
    if not is_below(one, len(board)) or not is_below(other, len(board)):
        raise InvalidLot(0)


def is_odd(board, one, other, setting, content, third):
    """Whether the square of two parts at a setting, with a further content of each, has an odd number of marks 1."""
    if one == other:
        return False
    beside = replaced(setting, one, content)
    corners = (setting, beside, replaced(setting, other, third), replaced(beside, other, third))
    return sum([board.marks[setting_number(board.sizes, corner)] for corner in corners]) % 2 == 1


def least_odd(board, one, other):
    """The least setting and greater contents of two parts with an odd square, or None."""
    for setting in all_settings(board.sizes):
        for content in range(setting[one] + 1, board.sizes[one]):
            for third in range(setting[other] + 1, board.sizes[other]):
                if is_odd(board, one, other, setting, content, third):
                    return setting, content, third
    return None


def odd_square(board, one, other):
    """The least odd square of two parts (any values), or None."""
    need_parts(board, one, other)
    return least_odd(board, one, other)


def shortest_steps(board, one):
    """For each part to which odd squares lead from one the fewest steps to it."""
    roads = {one: ()}
    waiting = [one]
    at = 0
    while at < len(waiting):
        here = waiting[at]
        for part in range(len(board)):
            square = None if part in roads else least_odd(board, here, part)
            if square is not None:
                roads[part] = roads[here] + ((here, part) + square,)
                waiting.append(part)
        at += 1
    return roads


def odd_road(board, one, other):
    """Some fewest steps over odd squares from one part to another one (any values), or None."""
    need_parts(board, one, other)
    return shortest_steps(board, one).get(other)


def is_odd_step(board, part, value):
    """Whether any value is a step from a part over an odd square."""
    if not isinstance(value, tuple) or len(value) != 5 or not is_setting(board.sizes, value[2]):
        return False
    if not is_below(value[0], len(board)) or value[0] != part or not is_below(value[1], len(board)):
        return False
    if not is_below(value[3], board.sizes[part]) or not is_below(value[4], board.sizes[value[1]]):
        return False
    return is_odd(board, part, value[1], value[2], value[3], value[4])


def odd_road_holds(board, one, other, value):
    """Whether any value is steps over odd squares from one part to another one (any values)."""
    need_parts(board, one, other)
    if not isinstance(value, tuple):
        return False
    here = one
    for step in value:
        if not is_odd_step(board, here, step):
            return False
        here = step[1]
    return here == other


def mark_blocks(board):
    """The blocks of a board of two marks, by their least parts."""
    need_two_marks(board)
    blocks = [tuple(sorted(list(shortest_steps(board, part)))) for part in range(len(board))]
    return tuple(sorted(set(blocks)))


def block_row(board, block):
    """For each content of a block, the others at 0, whether it brings another mark than zeros."""
    zeros = (0,) * len(board)
    row = []
    for contents in lot_contents(board, block):
        setting = zeros
        for part, content in zip(block, contents):
            setting = replaced(setting, part, content)
        row.append(board(setting) ^ board(zeros))
    return tuple(row)


def block_bits(board):
    """The blocks, the mark of the setting of zeros, and for each block the bits of its contents."""
    blocks = mark_blocks(board)
    return blocks, board.marks[0], tuple([block_row(board, block) for block in blocks])


def is_parted(many, value):
    """Whether any value is a tuple of lots, by their least parts, that have each part below a number once."""
    if not isinstance(value, tuple):
        return False
    parts = []
    for lot in value:
        if not isinstance(lot, tuple) or len(lot) == 0 or wrong_place([many] * len(lot), lot) is not None:
            return False
        if list(lot) != sorted(set(lot)):
            return False
        parts.extend(lot)
    firsts = [lot[0] for lot in value]
    return sorted(parts) == list(range(many)) and firsts == sorted(firsts)


def are_bits(board, lots, value):
    """Whether any value is a tuple with a tuple of bits for each of some lots, one for each content."""
    if not isinstance(value, tuple) or len(value) != len(lots):
        return False
    for lot, row in zip(lots, value):
        if not isinstance(row, tuple) or wrong_place([2] * len(lot_contents(board, lot)), row) is not None:
            return False
    return True


def bits_hold(board, value):
    """Whether any value is lots, a bit, and bits of their contents, whose parity is each mark."""
    need_two_marks(board)
    if not isinstance(value, tuple) or len(value) != 3:
        return False
    lots, base, rows = value
    if not is_parted(len(board), lots) or not is_below(base, 2) or not are_bits(board, lots, rows):
        return False
    for number, setting in enumerate(all_settings(board.sizes)):
        bits = base
        for lot, row in zip(lots, rows):
            bits += row[setting_number(lot_sizes(board, lot), [setting[part] for part in lot])]
        if bits % 2 != board.marks[number]:
            return False
    return True
