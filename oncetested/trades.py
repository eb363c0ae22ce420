"""Marks that are exchanged, lost marks that come back, and boards that are sums."""

from oncetested.boards import MOST_SETTINGS, Board, all_settings, nth_setting, setting_number, steps_of
from oncetested.errors import InvalidSize, Refused
from oncetested.fair import need_fair
from oncetested.values import product_of


def line_numbers(sizes, steps, number, part):
    """The numbers of the settings of a part's line through the setting of a number."""
    content = number // steps[part] % sizes[part]
    return [number + steps[part] * (other - content) for other in range(sizes[part])]


def exchange_lot(board, marks, number):
    """The numbers of all settings with two marks that hang together with one of these."""
    found = [number]
    known = {number: True}
    at = 0
    while at < len(found):
        here = found[at]
        for part in range(len(board)):
            for other in line_numbers(board.sizes, board.steps, here, part):
                if board.marks[other] in marks and other not in known:
                    known[other] = True
                    found.append(other)
        at += 1
    return sorted(found)


def exchange_lots(board, one, other):
    """The settings of two unlike marks in lots of those that hang together, by the least setting."""
    need_fair(board)
    known = {}
    lots = []
    for number, mark in enumerate(board.marks):
        if mark in (one, other) and number not in known:
            lot = exchange_lot(board, (one, other), number)
            for found in lot:
                known[found] = True
            lots.append(tuple([nth_setting(board.sizes, found) for found in lot]))
    return tuple(lots)


def exchanged_board(board, one, other, settings):
    """The board with two marks exchanged in some settings."""
    changed = {one: other, other: one}
    marks = list(board.marks)
    known = {}
    for at, setting in enumerate(settings):
        number = setting_number(board.sizes, setting)
        if marks[number] not in changed or number in known:
            raise Refused(at)
        known[number] = True
        marks[number] = changed[marks[number]]
    return Board(board.many, board.sizes, marks)


def need_few(sizes):
    """An error for more settings than boards have."""
    if product_of(sizes) > MOST_SETTINGS:
        raise InvalidSize("settings")


def gap_of(marks, line):
    """The number of the one setting of a line whose mark is lost, or None."""
    gaps = [number for number in line if marks[number] is None]
    return gaps[0] if len(gaps) == 1 else None


def comes_twice(marks, line):
    """Whether a mark comes twice in a line."""
    told = [marks[number] for number in line if marks[number] is not None]
    return len(set(told)) < len(told)


def filled_marks(many, parts, marks):
    """The marks with those filled in that lines with one gap tell, or None if a mark comes twice in a line."""
    sizes = [many] * parts
    need_few(sizes)
    steps = steps_of(sizes)
    filled = list(marks)
    waiting = list(range(len(filled)))
    while waiting:
        number = waiting.pop()
        for part in range(parts):
            line = line_numbers(sizes, steps, number, part)
            if comes_twice(filled, line):
                return None
            gap = gap_of(filled, line)
            if gap is not None:
                told = [filled[other] for other in line]
                filled[gap] = [mark for mark in range(many) if mark not in told][0]
                # The mark that has come may leave just one gap in the other lines through its setting.
                waiting.append(gap)
    return tuple(filled)


def sum_board(many, base, rows):
    """The board of base plus a number of each row, modulo many."""
    sizes = [len(row) for row in rows]
    need_few(sizes)
    sums = [base]
    for row in rows:
        sums = [whole + number for whole in sums for number in row]
    return Board(many, sizes, [whole % many for whole in sums])


def sum_paper(board):
    """A base and rows of which a board is the sum, or None."""
    base = board.marks[0]
    rows = []
    for part, size in enumerate(board.sizes):
        steps = [board.steps[part] * content for content in range(size)]
        rows.append(tuple([(board.marks[step] - base) % board.many for step in steps]))
    for number, setting in enumerate(all_settings(board.sizes)):
        whole = base + sum([rows[part][content] for part, content in enumerate(setting)])
        if whole % board.many != board.marks[number]:
            return None
    return base, tuple(rows)
