"""Movers: rows of one part that lead the mark by one row, and what renewals of pairs have in common."""

from oncetested.boards import need_lot
from oncetested.errors import InvalidLot, Refused
from oncetested.fair import need_fair
from oncetested.putting import all_steps, stepped_marks
from oncetested.renewals import lot_renewals, need_fair_lot, undone_row
from oncetested.values import is_below, is_permutation


def need_part(board, part):
    """An error for a board that is not fair, and for any value that is no part."""
    need_fair(board)
    if not is_below(part, len(board)):
        raise InvalidLot(0)


def need_moved(board, part):
    """The errors of a part that is to be moved (any value)."""
    need_part(board, part)
    if len(board) == 1:
        raise Refused(part)


def moved_marks(board, part, row):
    """The marks by all settings, with a part's contents led by a row."""
    rows = all_steps(board)
    rows[part] = [board.steps[part] * content for content in row]
    return stepped_marks(board, rows)


def marks_led(board, part, row):
    """The row by which marks are led where a part's contents are led by a row, or None if there is none."""
    led = {}
    for mark, other in zip(board.marks, moved_marks(board, part, row)):
        if led.setdefault(mark, other) != other:
            return None
    return tuple([led[mark] for mark in range(board.many)])


def mover_to(board, part, content):
    """The mover of a part that leads 0 to a content, or None."""
    step = board.steps[part]
    outer = board.steps[1 if part == 0 else 0]
    # With the part at 0 another part brings every mark, so there is seen to which all marks would be led.
    led = {}
    for other in range(board.many):
        led[board.marks[outer * other]] = board.marks[outer * other + step * content]
    line = [board.marks[step * other] for other in range(board.many)]
    row = tuple([line.index(led[mark]) for mark in line])
    marks = marks_led(board, part, row)
    return None if marks is None else (row, marks)


def part_movers(board, part):
    """All movers of a part, ascending (any value)."""
    need_moved(board, part)
    # Movers ascend with the content to which they lead 0: no two lead it to one.
    found = [mover_to(board, part, content) for content in range(board.many)]
    return tuple([mover for mover in found if mover is not None])


def mover_holds(board, part, value):
    """Whether any value is a mover of a part (any value)."""
    need_moved(board, part)
    if not isinstance(value, tuple) or len(value) != 2:
        return False
    if not all([isinstance(row, tuple) and is_permutation(row, board.many) for row in value]):
        return False
    return marks_led(board, part, value[0]) == value[1]


def paired_movers(board, lot):
    """The renewals of a lot of two parts that movers of both with the same marks make, ascending."""
    one, other = need_fair_lot(board, lot)
    rows = {marks: row for row, marks in part_movers(board, other)}
    return tuple([(row, undone_row(rows[marks])) for row, marks in part_movers(board, one) if marks in rows])


def pair_renewals(board, part, partner):
    """For each renewal of a part and a partner the row of the part, ascending."""
    lot = (min(part, partner), max(part, partner))
    return sorted([rows[lot.index(part)] for rows in lot_renewals(board, lot)])


def serving_rows(board, part, partners):
    """The rows of a part that lie in a renewal of it with each of some partners, ascending (any values)."""
    need_part(board, part)
    partners = need_lot(board, partners)
    if part in partners:
        raise InvalidLot(partners.index(part))
    serving = pair_renewals(board, part, partners[0])
    for partner in partners[1:]:
        rows = pair_renewals(board, part, partner)
        serving = [row for row in serving if row in rows]
    return tuple(serving)


def full_partners(board, part):
    """The parts with which a part has as many renewals as there are marks, ascending (any value)."""
    need_part(board, part)
    others = [other for other in range(len(board)) if other != part]
    return tuple([other for other in others if len(pair_renewals(board, part, other)) == board.many])
