"""Boards and nets in which the greatest one-test lots within and outside a lot are single parts."""

from itertools import combinations

from oncetested.boards import MOST_PARTS, MOST_SETTINGS, Board, all_settings, lot_contents, lot_sizes, lot_step
from oncetested.boards import need_lot, rest_of
from oncetested.errors import InvalidSetting, InvalidSize
from oncetested.fair import need_fair
from oncetested.nets import net_lots
from oncetested.putting import stepped_marks
from oncetested.readings import lot_reading
from oncetested.shapes import is_inner
from oncetested.trees import shape_of
from oncetested.values import power_of, wrong_place


def greatest_within(shape, parts):
    """The greatest inner lots of a shape that have some parts alone, ascending."""
    inner = []
    for many in range(1, len(parts) + 1):
        inner.extend([lot for lot in combinations(list(parts), many) if is_inner(shape, lot)])
    taken = {}
    lots = []
    for lot in inner[::-1]:
        # Inner lots that meet lie in a greater one, so the greatest have no part in common.
        if lot[0] not in taken:
            lots.append(lot)
            for part in lot:
                taken[part] = True
    return tuple(sorted(lots))


def folded_lots(board, lot):
    """The greatest one-test lots within a lot, and those within the other parts."""
    lot = need_lot(board, lot)
    shape = shape_of(need_fair(board))
    return greatest_within(shape, lot), greatest_within(shape, rest_of(board, lot))


def first_contents(board, lot):
    """For each number of a one-test lot's reading the first content that has it."""
    reading, rows = lot_reading(board, lot)
    contents = lot_contents(board, lot)
    return [contents[reading.index(number)] for number in range(len(rows))]


def numbers_within(lots, inside):
    """The numbers of the lots that are among some."""
    return tuple([number for number, lot in enumerate(lots) if lot in inside])


def folded_board(board, lot):
    """The board with a part for each folded lot, and the lot of those within a lot."""
    inside, outside = folded_lots(board, lot)
    lots = sorted(inside + outside)
    rows = [[lot_step(board, each, contents) for contents in first_contents(board, each)] for each in lots]
    folded = Board(board.many, [len(row) for row in rows], stepped_marks(board, rows))
    return folded, numbers_within(lots, inside)


def folded_contents(board, lot, contents):
    """The contents of the folded lot for contents of a lot (any value)."""
    lot = need_lot(board, lot)
    inside, _ = folded_lots(board, lot)
    if wrong_place(lot_sizes(board, lot), contents) is not None:
        raise InvalidSetting("contents")
    told = dict(zip(lot, contents))
    folded = []
    for each in inside:
        reading, _ = lot_reading(board, each)
        folded.append(reading[lot_contents(board, each).index(tuple([told[part] for part in each]))])
    return tuple(folded)


def kept_wires(net, lot):
    """The greatest wires of a net with parts of a lot alone, or of the rest alone, by their least parts."""
    lots = net_lots(net)
    sided = [len(set([part in lot for part in parts])) == 1 for parts in lots]
    read = {}
    for number, (_, wires) in enumerate(net.rows):
        if sided[net.parts + number]:
            for wire in wires:
                read[wire] = True
    kept = sorted([(lots[wire], wire) for wire in range(len(lots)) if sided[wire] and wire not in read])
    return [wire for _, wire in kept]


def marks_above(net, kept):
    """The marks of a net by all settings of some wires that all others hang on."""
    settings = all_settings([net.many] * len(kept))
    columns = {wire: [setting[at] for setting in settings] for at, wire in enumerate(kept)}
    for number, (table, wires) in enumerate(net.rows):
        wire = net.parts + number
        if wire not in columns and all([below in columns for below in wires]):
            numbers = [0] * len(settings)
            for below in wires:
                numbers = [at * net.many + mark for at, mark in zip(numbers, columns[below])]
            columns[wire] = [table[at] for at in numbers]
    return columns[net.parts + len(net.rows) - 1]


def net_fold(net, lot):
    """The board with a part for each of the greatest wires on one side of a lot, and the lot of those within it."""
    lot = need_lot(net, lot)
    kept = kept_wires(net, lot)
    if len(kept) > MOST_PARTS or power_of(net.many, len(kept)) > MOST_SETTINGS:
        raise InvalidSize("settings")
    lots = net_lots(net)
    folded = Board(net.many, [net.many] * len(kept), marks_above(net, kept))
    return folded, tuple([number for number, wire in enumerate(kept) if lots[wire][0] in lot])
