"""Hulls: the least one-test lots above others, and papers that show them."""

from oncetested.boards import need_lot, rest_of
from oncetested.looks import differing_places, is_no
from oncetested.readings import least_no, lot_reading, tested_lots
from oncetested.tries import counting_parts
from oncetested.values import same_value, union_of


def hull_chain(board, lot):
    """The lot, joined with all parts that count for it, and so on up to the hull."""
    chain = [need_lot(board, lot)]
    further = counting_parts(board, lot)
    while further:
        chain.append(union_of([chain[-1], further]))
        further = counting_parts(board, chain[-1])
    return tuple(chain)


def hull_of(board, lot):
    """The least one-test lot above a lot."""
    return hull_chain(board, lot)[-1]


def single_hulls(board):
    """The hulls of each part alone."""
    return tuple([hull_of(board, (part,)) for part in range(len(board))])


def outer_parts(board, lot, no):
    """The parts outside a lot in which w and x of a no differ."""
    rest = rest_of(board, lot)
    return [rest[at] for at in differing_places(no[2], no[3])]


def hull_paper(board, lot):
    """The least noes that lead from a lot to its hull part by part, and the reading and rows of the hull."""
    lot = need_lot(board, lot)
    noes = []
    no = least_no(board, lot)
    while no is not None:
        noes.append(no)
        lot = union_of([lot, outer_parts(board, lot, no)])
        no = least_no(board, lot)
    reading, rows = lot_reading(board, lot)
    return tuple(noes), reading, rows


def shown_hull(board, lot, value):
    """The lot that any value shows as the hull of a lot, or None."""
    lot = need_lot(board, lot)
    if not isinstance(value, tuple) or len(value) != 3 or not isinstance(value[0], tuple):
        return None
    for no in value[0]:
        if not is_no(board, lot, no):
            return None
        parts = outer_parts(board, lot, no)
        if len(parts) != 1:
            return None
        lot = union_of([lot, parts])
    pair = lot_reading(board, lot)
    return lot if pair is not None and same_value(value[1:], pair) else None


def meet_above(parts, lots, lot):
    """The parts below a number that all those of some lots have that are above a lot."""
    left = list(range(parts))
    for other in lots:
        if all([part in other for part in lot]):
            left = [part for part in left if part in other]
    return tuple(left)


def key_lots(board):
    """The one-test lots, but that of all parts, that are not the meet of all greater ones above them."""
    lots = tested_lots(board)
    keys = []
    for lot in lots:
        greater = [other for other in lots if other != lot]
        if len(lot) < len(board) and meet_above(len(board), greater, lot) != lot:
            keys.append(lot)
    return tuple(keys)
