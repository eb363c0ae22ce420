"""Changes of a lot, where they stay, and noes: four looks that show a lot is not one-test."""

from oncetested.boards import Board, all_settings, is_setting, lot_contents, lot_sizes, lot_step
from oncetested.boards import need_lot, rest_of
from oncetested.errors import InvalidLot, InvalidSetting, InvalidSize, Refused
from oncetested.values import is_below, is_between, is_integer, wrong_place


def need_contents(board, lot, value, word):
    """Any value that is a sequence of contents of a lot, as a tuple, else an error with this word."""
    if wrong_place(lot_sizes(board, lot), value) is not None:
        raise InvalidSetting(word)
    return tuple(value)


def mark_at(board, lot, inside, outside):
    """The mark with these contents of a lot and of its rest."""
    return board.marks[lot_step(board, lot, inside) + lot_step(board, rest_of(board, lot), outside)]


def stays_at(board, lot, u, v, w):
    """Whether a change of a lot stays at contents of the rest."""
    return mark_at(board, lot, u, w) == mark_at(board, lot, v, w)


def change_stays(board, lot, u, v, w):
    """Whether a change of a lot stays at contents of the rest (any values)."""
    lot = need_lot(board, lot)
    u = need_contents(board, lot, u, "u")
    v = need_contents(board, lot, v, "v")
    w = need_contents(board, rest_of(board, lot), w, "w")
    return stays_at(board, lot, u, v, w)


def stay_places(board, lot, u, v):
    """All contents of the rest at which a change stays, ascending."""
    lot = need_lot(board, lot)
    u = need_contents(board, lot, u, "u")
    v = need_contents(board, lot, v, "v")
    places = lot_contents(board, rest_of(board, lot))
    return tuple([w for w in places if stays_at(board, lot, u, v, w)])


def is_no(board, lot, value):
    """Whether any value is a no of a lot that is one."""
    if not isinstance(value, tuple) or len(value) != 4:
        return False
    inside = lot_sizes(board, lot)
    outside = lot_sizes(board, rest_of(board, lot))
    fits = [is_setting(sizes, value[at]) for at, sizes in enumerate((inside, inside, outside, outside))]
    if not all(fits):
        return False
    u, v, w, x = value
    return u < v and stays_at(board, lot, u, v, w) and not stays_at(board, lot, u, v, x)


def no_holds(board, lot, value):
    """Whether any value is a no of a lot."""
    return is_no(board, need_lot(board, lot), value)


def need_no(board, lot, value):
    """Any value that is a no of a lot, else an error."""
    if not is_no(board, lot, value):
        raise Refused(-1)
    return value


def differing_places(one, other):
    """The places in which two sequences of one length differ, ascending."""
    return tuple([at for at in range(len(one)) if one[at] != other[at]])


def mixed_contents(u, v):
    """All tuples with the number of u or that of v in each place, ascending."""
    mixed = [()]
    for at in range(len(u)):
        numbers = sorted(set([u[at], v[at]]))
        mixed = [row + (number,) for row in mixed for number in numbers]
    return tuple(mixed)


def replaced(contents, at, content):
    """Contents with another one at a place."""
    return contents[:at] + (content,) + contents[at + 1:]


def near_no(board, lot, no):
    """The first step of the walk from w to x at which the change ceases to stay, as a no."""
    lot = need_lot(board, lot)
    u, v, w, x = need_no(board, lot, no)
    here = w
    for at in differing_places(w, x):
        there = replaced(here, at, x[at])
        if not stays_at(board, lot, u, v, there):
            return u, v, here, there
        here = there
    return no


def no_between(board, lot, one, other, w, x):
    """The no of a change with w and x in either order, or None."""
    at_w = stays_at(board, lot, one, other, w)
    at_x = stays_at(board, lot, one, other, x)
    if at_w == at_x:
        return None
    return (one, other, w, x) if at_w else (one, other, x, w)


def smaller_no(board, lot, no):
    """The least no with the fewest changed parts, of mixed contents and fewer changed parts, or None."""
    lot = need_lot(board, lot)
    u, v, w, x = need_no(board, lot, no)
    mixed = mixed_contents(u, v)
    best = None
    fewest = len(differing_places(u, v))
    for at, one in enumerate(mixed):
        for other in mixed[at + 1:]:
            changes = len(differing_places(one, other))
            if changes < fewest:
                found = no_between(board, lot, one, other, w, x)
                if found is not None:
                    best = found
                    fewest = changes
    return best


def cut_no(board, lot, no):
    """The smaller no of the near no, if there is one, else the near no."""
    near = near_no(board, lot, no)
    smaller = smaller_no(board, lot, near)
    return near if smaller is None else smaller


def is_full(board, part):
    """Whether a part, the others held anyhow, brings each mark just once (any value)."""
    if not is_below(part, len(board)):
        raise InvalidLot(0)
    if board.sizes[part] != board.many:
        return False
    step = board.steps[part]
    for number, setting in enumerate(all_settings(board.sizes)):
        if setting[part] == 0:
            line = [board.marks[number + step * content] for content in range(board.many)]
            if len(set(line)) != board.many:
                return False
    return True


def brought_back(board, lot, contents, at, w, mark):
    """Contents of a lot with the content in a place that brings a mark at w."""
    for content in range(board.many):
        turned = replaced(contents, at, content)
        if mark_at(board, lot, turned, w) == mark:
            return turned
    return contents


def pivot_no(board, lot, no, part):
    """A no that changes one part, and perhaps a full part that makes up for it."""
    lot = need_lot(board, lot)
    u, v, w, x = near_no(board, lot, no)
    if not is_integer(part) or part not in lot or not is_full(board, part):
        raise Refused(part)
    pivot = lot.index(part)
    mark = mark_at(board, lot, u, w)
    here = u
    for at in differing_places(u, v):
        if at != pivot:
            there = brought_back(board, lot, replaced(here, at, v[at]), pivot, w, mark)
            if not stays_at(board, lot, here, there, x):
                return min(here, there), max(here, there), w, x
            here = there
    return u, v, w, x


def stubborn_board(many):
    """The board of which every no of the first parts changes all of these."""
    if not is_between(many, 1, 7):
        raise InvalidSize("parts")
    sizes = [2] * (many + 1)
    marks = []
    for setting in all_settings(sizes):
        ones = sum(setting[:many])
        if ones == 0:
            marks.append(0)
        elif ones == many:
            marks.append(2 * setting[many])
        else:
            marks.append(1)
    return Board(3, sizes, marks)
