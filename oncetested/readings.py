"""Readings of one-test lots, least noes of the others, and lots within lots."""

from itertools import combinations

from oncetested.boards import Board, all_settings, lot_contents, lot_marks, lot_sizes, need_lot, rest_of
from oncetested.boards import setting_number
from oncetested.errors import Refused
from oncetested.looks import differing_places, no_holds, replaced
from oncetested.putting import layered_marks
from oncetested.values import same_value


def lot_reading(board, lot):
    """The numbers of a one-test lot's contents, and the marks of each number, or None."""
    lot = need_lot(board, lot)
    numbers = {}
    reading = []
    for row in lot_marks(board, lot):
        numbers.setdefault(row, len(numbers))
        reading.append(numbers[row])
    rows = tuple(list(numbers))
    # Unlike rows of a one-test lot differ everywhere.
    for column in zip(*rows):
        if len(set(column)) < len(rows):
            return None
    return tuple(reading), rows


def one_test(board, lot):
    """Whether a lot is one-test."""
    return lot_reading(board, lot) is not None


def reading_holds(board, lot, value):
    """Whether any value is the pair of reading and rows of a one-test lot."""
    pair = lot_reading(board, lot)
    return pair is not None and same_value(value, pair)


def near_numbers(sizes, places):
    """For each setting the numbers of those that differ from it in one of some places alone, ascending."""
    near = []
    for setting in all_settings(sizes):
        others = [replaced(setting, at, other) for at in places for other in range(sizes[at])]
        near.append([setting_number(sizes, other) for other in sorted(others) if other != setting])
    return near


def first_step(one, other, near):
    """The first place where two rows have one mark, and the first near one where they do not, or None."""
    for w, mark in enumerate(one):
        if mark == other[w]:
            for x in near[w]:
                if one[x] != other[x]:
                    return w, x
    return None


def first_no(board, lot, parts):
    """The no that changes the fewest parts, of these the least with just one of some other parts unlike, or None."""
    rest = rest_of(board, lot)
    rows = lot_marks(board, lot)
    inner = lot_contents(board, lot)
    outer = lot_contents(board, rest)
    near = near_numbers(lot_sizes(board, rest), [rest.index(part) for part in parts])
    best = None
    fewest = len(lot) + 1
    for i, u in enumerate(inner):
        for j in range(i + 1, len(inner)):
            changes = len(differing_places(u, inner[j]))
            if changes < fewest:
                found = first_step(rows[i], rows[j], near)
                if found is not None:
                    best = (u, inner[j], outer[found[0]], outer[found[1]])
                    fewest = changes
    return best


def least_no(board, lot):
    """The no that changes the fewest parts, of these the least with one other part, or None."""
    lot = need_lot(board, lot)
    return first_no(board, lot, rest_of(board, lot))


def lot_paper(board, lot):
    """The paper of a lot: yes with reading and rows, or no with the least no."""
    pair = lot_reading(board, lot)
    if pair is not None:
        return "yes", pair[0], pair[1]
    u, v, w, x = least_no(board, lot)
    return "no", u, v, w, x


def lot_holds(board, lot, value):
    """Whether any value is a reading with its rows, or a no, with its word ahead."""
    pair = lot_reading(board, lot)
    if not isinstance(value, tuple) or len(value) == 0:
        return False
    if value[0] == "yes":
        return pair is not None and same_value(value[1:], pair)
    return value[0] == "no" and no_holds(board, lot, value[1:])


def tested_lots(board):
    """All one-test lots, shorter ones first, else ascending."""
    lots = []
    for many in range(1, len(board) + 1):
        lots.extend([lot for lot in combinations(range(len(board)), many) if one_test(board, lot)])
    return tuple(lots)


def need_reading(board, lot):
    """The reading and the rows of a one-test lot, else an error."""
    pair = lot_reading(board, lot)
    if pair is None:
        raise Refused(-1)
    return pair


def read_board(board, lot):
    """The board of a one-test lot's parts alone, whose marks are the readings."""
    reading, _ = need_reading(board, lot)
    return Board(board.many, lot_sizes(board, lot), reading)


def knit_board(board, lot):
    """The board in which a one-test lot is one part, whose contents are the readings."""
    _, rows = need_reading(board, lot)
    sizes = lot_sizes(board, rest_of(board, lot))
    # All parts below the lot's first one are of the rest: they stand ahead of the new part.
    place = lot[0]
    marks = layered_marks(rows, sizes, place)
    return Board(board.many, sizes[:place] + (len(rows),) + sizes[place:], marks)
