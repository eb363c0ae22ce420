"""Arrows: which parts a one-test lot must have besides, if it has a part and a pivot."""

from oncetested.errors import InvalidLot
from oncetested.tries import counting_paper, counting_parts
from oncetested.values import is_below


def pivot_lot(part, pivot):
    """The lot of a part and a pivot."""
    return min(part, pivot), max(part, pivot)


def arrow_no(board, part, pivot, outside):
    """The first no that shows that an arrow leads from a part to an outside one, or None (any values)."""
    parts = (part, pivot, outside)
    for at, value in enumerate(parts):
        if not is_below(value, len(board)) or value in parts[:at]:
            raise InvalidLot(at)
    return counting_paper(board, pivot_lot(part, pivot), outside)


def arrow_rows(board, pivot):
    """For each part the lot of the parts to which arrows lead from it."""
    if not is_below(pivot, len(board)):
        raise InvalidLot(0)
    rows = [() if part == pivot else counting_parts(board, pivot_lot(part, pivot)) for part in range(len(board))]
    return tuple(rows)


def reached_lot(rows, lot):
    """The least lot above a lot that no arrow of such rows leaves."""
    reached = list(lot)
    at = 0
    while at < len(reached):
        further = [part for part in rows[reached[at]] if part not in reached]
        reached.extend(further)
        at += 1
    return tuple(sorted(reached))
