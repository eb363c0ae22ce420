"""Readings of one-test lots that are shown besides the mark, and which wrong parts they find."""

from oncetested.boards import joined_setting, parted_setting
from oncetested.fair import need_fair
from oncetested.shapes import is_leaf, parts_of
from oncetested.trees import pairs_below
from oncetested.values import union_of
from oncetested.wrong import nth_unnoticed


def unparted_pair(many, lots):
    """The least pair of parts below a number of which no lot has just one, or None."""
    for one, other in pairs_below(many):
        if not any([(one in lot) != (other in lot) for lot in lots]):
            return one, other
    return None


def reads_wrong(board, lot, setting, wrong):
    """Whether the reading of a one-test lot at a wrong setting is another one than at a setting."""
    _, outside = parted_setting(board, lot, setting)
    inside, _ = parted_setting(board, lot, wrong)
    # Unlike readings bring unlike marks beside any contents of the rest.
    return board(joined_setting(board, lot, inside, outside)) != board(setting)


def seen_wrong(board, lots, setting, wrong):
    """For each one-test lot whether its reading at a wrong setting is another one than at a setting."""
    need_fair(board)
    return tuple([reads_wrong(board, lot, setting, wrong) for lot in lots])


def suspect_parts(many, lots, seen):
    """The parts below a number that, wrong alone, would be seen so: those in just the lots that read wrong."""
    parts = []
    for part in range(many):
        if all([(part in lot) == told for lot, told in zip(lots, seen)]):
            parts.append(part)
    return tuple(parts)


def hidden_pair(board, lots, setting):
    """The first unnoticed setting in which the least pair that no lot parts is wrong, or None."""
    need_fair(board)
    pair = unparted_pair(len(board), lots)
    return None if pair is None else nth_unnoticed(board, setting, pair, 0)


def free_rows(many, first):
    """For each bit the places below many whose numbers, from a first one on, have it."""
    numbers = list(range(first, first + many))
    width = numbers[-1].bit_length() if numbers else 0
    return [[at for at, number in enumerate(numbers) if number >> bit & 1] for bit in range(width)]


def line_rows(many, first):
    """The fewest stretches of places below many that part them, and if first is 1, have each of them."""
    if many + first < 2:
        return []
    # Each stretch starts one place behind the one ahead and is as long, so each place is in other ones.
    count = (many + 1 + first) // 2
    return [list(range(at, min(at + count, many))) for at in range(count)]


def bare_rows(many, first):
    """Single places below many, all of them, or all but one."""
    return [[at] for at in range(1 - first, many)]


def choice_rows(kind, many, first):
    """The fewest choices of places below many that part them, and if first is 1, have each of them."""
    if kind == "bare":
        return bare_rows(many, first)
    return line_rows(many, first) if kind == "line" else free_rows(many, first)


def chosen_lot(knot, numbers):
    """The lot of some children of a knot; along a line those between them, too."""
    kind, children = knot
    if kind == "line":
        numbers = list(range(numbers[0], numbers[-1] + 1))
    return union_of([parts_of(children[number]) for number in numbers])


def parting_lots(tree):
    """The fewest inner lots below a leaf or knot that part its parts, and such that have each of them, too."""
    if is_leaf(tree):
        return [], [parts_of(tree)]
    kind, children = tree
    inner = []
    # Of these children one part is in no lot unless there is a lot more: choices of children may do for it.
    wanting = []
    for number, child in enumerate(children):
        parting, whole = parting_lots(child)
        if len(whole) > len(parting):
            wanting.append(number)
            inner.extend(parting)
        else:
            inner.extend(whole)
    found = []
    for first in (0, 1):
        rows = choice_rows(kind, len(wanting), first)
        found.append(inner + [chosen_lot(tree, [wanting[at] for at in row]) for row in rows])
    return found[0], found[1]


def fewest_shown(shape):
    """As few inner lots as can be that part all parts of a shape, ascending."""
    return tuple(sorted(parting_lots(shape)[0]))
