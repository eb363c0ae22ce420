"""Rules that one-test lots keep, the fewest lots that make a hull, and boards of one rule."""

from itertools import combinations

from oncetested.boards import Board, all_settings, need_lot
from oncetested.errors import InvalidSize, Refused
from oncetested.hulls import hull_of
from oncetested.values import is_below, is_between, union_of

MOST_MARKED = 3


def lies_in(lot, other):
    """Whether a lot has only parts that another one has."""
    return all([part in other for part in lot])


def ruled_lot(rules, lot):
    """The least lot above a lot that keeps all rules."""
    wider = sorted(lot)
    for ahead, behind in rules:
        if lies_in(ahead, wider):
            wider = union_of([wider, [part for part in behind if part not in wider]])
    # A part that has come may make an earlier rule ask for more.
    return tuple(wider) if len(wider) == len(lot) else ruled_lot(rules, wider)


def lots_by_length(board):
    """All lots of a board's parts, shorter ones first, else ascending."""
    parts = list(range(len(board)))
    return [lot for many in range(1, len(parts) + 1) for lot in combinations(parts, many)]


def fewest_rules(board):
    """The fewest rules by which each lot leads to its hull."""
    rules = []
    for lot in lots_by_length(board):
        if ruled_lot(rules, lot) == lot:
            hull = hull_of(board, lot)
            if hull != lot:
                rules.append((lot, hull))
    return tuple(rules)


def least_makers(board, lot):
    """The lots with the hull of a lot, and no smaller lot with this hull within; shorter ones first, else ascending."""
    hull = hull_of(board, lot)
    makers = []
    for other in lots_by_length(board):
        # A lot in the hull above one that makes it makes it, too, so only the least ones have none within.
        if lies_in(other, hull) and not any([lies_in(maker, other) for maker in makers]):
            if hull_of(board, other) == hull:
                makers.append(other)
    return tuple(makers)


def rule_board(parts, lot, part):
    """The board of parts of two contents in which just the lots with a lot and without a part are not one-test."""
    if not is_between(parts, 2, 8):
        raise InvalidSize("parts")
    lot = need_lot(tuple(range(parts)), lot)
    many = len(lot)
    if many > MOST_MARKED:
        raise InvalidSize("marks")
    if not is_below(part, parts) or part in lot:
        raise Refused(part)
    sizes = (2,) * parts
    marks = []
    for setting in all_settings(sizes):
        ones = sum([setting[other] for other in lot])
        marks.append(many + ones if setting[part] else ones % many)
    return Board(2 * many + 1, sizes, marks)
