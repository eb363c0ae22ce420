"""Parts held at contents: which lots are one-test among the parts left, and which of these are gained so."""

from itertools import combinations

from oncetested.boards import lot_contents, need_lot, need_setting, rest_of
from oncetested.errors import InvalidHolds, InvalidLot, Refused
from oncetested.hulls import hull_paper, shown_hull
from oncetested.putting import held_board, held_parts
from oncetested.readings import lot_reading, one_test, reading_holds, tested_lots
from oncetested.values import is_below, is_sequence


def need_pairs(sizes, pairs):
    """Any value that holds some parts of these sizes, not all, as a dict; else an error."""
    if not is_sequence(pairs):
        raise InvalidHolds(-1)
    told = {}
    for at, pair in enumerate(pairs):
        if not isinstance(pair, tuple) or len(pair) != 2 or not is_below(pair[0], len(sizes)) or pair[0] in told:
            raise InvalidHolds(at)
        if not is_below(pair[1], sizes[pair[0]]):
            raise InvalidHolds(at)
        told[pair[0]] = pair[1]
    if len(told) == len(sizes):
        raise Refused(-1)
    return told


def parts_left(many, told):
    """The parts below a number that are not held."""
    return tuple([part for part in range(many) if part not in told])


def need_left_lot(left, value):
    """Any value that is a lot of the parts left, as a tuple, else an error."""
    if not is_sequence(value) or len(value) == 0:
        raise InvalidLot(-1)
    ahead = -1
    for at, part in enumerate(value):
        if not is_below(part, left[-1] + 1) or part not in left or part <= ahead:
            raise InvalidLot(at)
        ahead = part
    return tuple(value)


def left_board(board, told):
    """The board of the parts left."""
    return held_parts(board, list(told.items()))


def places_of(left, lot):
    """A lot of the parts left, by their places among these."""
    return tuple([left.index(part) for part in lot])


def meet_of(lot, other):
    """The parts of a lot that another one has, too."""
    return tuple([part for part in lot if part in other])


def left_parts(board, pairs):
    """The parts that are not held."""
    return parts_left(len(board), need_pairs(board.sizes, pairs))


def left_lots(board, pairs):
    """The lots of parts left that are one-test while the others are held, shorter ones first, else ascending."""
    told = need_pairs(board.sizes, pairs)
    left = parts_left(len(board), told)
    return tuple([tuple([left[place] for place in lot]) for lot in tested_lots(left_board(board, told))])


def gained_lots(board, pairs):
    """The lots of parts left that are one-test, and not what a one-test lot of the board has of these parts."""
    lots = left_lots(board, pairs)
    left = left_parts(board, pairs)
    kept = [meet_of(lot, left) for lot in tested_lots(board)]
    return tuple([lot for lot in lots if lot not in kept])


def gain_paper(board, pairs, lot):
    """The reading and rows of a gained lot, then the paper of its hull in the whole board; or None."""
    told = need_pairs(board.sizes, pairs)
    left = parts_left(len(board), told)
    lot = need_left_lot(left, lot)
    pair = lot_reading(left_board(board, told), places_of(left, lot))
    paper = hull_paper(board, lot)
    if pair is None or not has_further(left, lot, shown_hull(board, lot, paper)):
        return None
    return pair + paper


def has_further(left, lot, hull):
    """Whether a hull, or None, has parts left that a lot has not."""
    return hull is not None and meet_of(hull, left) != lot


def gain_holds(board, pairs, lot, value):
    """Whether any value shows that a lot is gained."""
    told = need_pairs(board.sizes, pairs)
    left = parts_left(len(board), told)
    lot = need_left_lot(left, lot)
    if not isinstance(value, tuple) or len(value) != 5:
        return False
    if not reading_holds(left_board(board, told), places_of(left, lot), value[:2]):
        return False
    return has_further(left, lot, shown_hull(board, lot, value[2:]))


def layer_readings(board, part, lot):
    """For each content of a part the reading of a lot while the part is held there, or None."""
    if not is_below(part, len(board)) or len(board) == 1:
        raise Refused(part)
    left = rest_of(board, (part,))
    places = places_of(left, need_left_lot(left, lot))
    pairs = [lot_reading(held_board(board, part, content), places) for content in range(board.sizes[part])]
    return tuple([None if pair is None else pair[0] for pair in pairs])


def layer_kinds(board, part, lot):
    """The contents of a part in lots of those with one reading of a lot, by the least ones."""
    lots = {}
    for content, reading in enumerate(layer_readings(board, part, lot)):
        if reading is None:
            raise Refused(content)
        lots.setdefault(reading, []).append(content)
    return tuple([tuple(contents) for contents in lots.values()])


def is_tested_held(board, lot, told):
    """Whether a lot is one-test while some other parts are held at told contents."""
    left = parts_left(len(board), told)
    return one_test(left_board(board, told), places_of(left, lot))


def held_rows(board, parts):
    """All rows of pairs that hold some parts."""
    return [tuple(zip(parts, contents)) for contents in lot_contents(board, parts)]


def fewest_holds(board, lot):
    """The least row of the fewest pairs of other parts with which a lot is one-test."""
    lot = need_lot(board, lot)
    others = list(rest_of(board, lot))
    for many in range(len(others) + 1):
        rows = [row for parts in combinations(others, many) for row in held_rows(board, parts)]
        found = [row for row in rows if is_tested_held(board, lot, dict(row))]
        if found:
            return min(found)
    return ()


def loose_lots(board, lot, setting):
    """The greatest lots of other parts that may stay loose while the others are held as in a setting."""
    lot = need_lot(board, lot)
    need_setting(board.sizes, setting)
    others = list(rest_of(board, lot))
    loose = []
    for many in range(len(others) + 1):
        found = []
        for held in combinations(others, many):
            parts = tuple([part for part in others if part not in held])
            wider = any([meet_of(parts, greater) == parts for greater in loose])
            if not wider and is_tested_held(board, lot, {part: setting[part] for part in held}):
                found.append(parts)
        loose.extend(sorted(found))
    return tuple(loose)
