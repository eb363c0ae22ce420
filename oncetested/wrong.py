"""Wrong parts: which settings go unnoticed by the mark, and what is known of the others."""

from oncetested.boards import all_settings, joined_setting, lot_contents, lot_marks, need_lot, parted_setting, rest_of
from oncetested.errors import InvalidSize
from oncetested.fair import need_fair
from oncetested.looks import differing_places, replaced
from oncetested.tries import first_numbers
from oncetested.values import is_below


def explained_by(board, setting, mark):
    """For each part the content that brings a mark, the others as in a setting."""
    need_fair(board)
    setting = tuple(setting)
    contents = []
    for part in range(len(board)):
        line = [board(replaced(setting, part, content)) for content in range(board.many)]
        contents.append(line.index(mark))
    return tuple(contents)


def changed_many(many, parts):
    """In how many ways parts can all be changed so that the mark stays, and so that one other mark comes."""
    same, other = 1, 0
    for _ in range(parts):
        same, other = other * (many - 1), same + other * (many - 2)
    return same, other


def unnoticed_many(many, parts):
    """In how many ways parts can all be changed so that the mark stays."""
    return changed_many(many, parts)[0]


def unnoticed_settings(board, setting, lot):
    """The settings of the same mark that differ from one in just the parts of a lot, ascending."""
    inside, outside = parted_setting(board, lot, setting)
    found = []
    for contents in lot_contents(board, lot):
        if len(differing_places(contents, inside)) == len(lot):
            wrong = joined_setting(board, lot, contents, outside)
            if board(wrong) == board(setting):
                found.append(wrong)
    return found


def nth_unnoticed(board, setting, lot, number):
    """The setting of a number among those of the same mark that differ in just the parts of a lot (any values)."""
    need_fair(board)
    found = unnoticed_settings(board, setting, need_lot(board, lot))
    if not is_below(number, len(found)):
        raise InvalidSize("number")
    return found[number]


def unnoticed_number(board, setting, wrong):
    """The number of a setting among those of the same mark that differ in the same parts from another one, or None."""
    need_fair(board)
    lot = differing_places(setting, wrong)
    if not lot or board(setting) != board(wrong):
        return None
    return unnoticed_settings(board, setting, lot).index(tuple(wrong))


def full_change(one, other):
    """The first places at which two rows of marks are equal, and at which they are not, or None."""
    unlike = differing_places(one, other)
    if not unlike or len(unlike) == len(one):
        return None
    alike = [at for at in range(len(one)) if at not in unlike]
    return alike[0], unlike[0]


def full_no(board, lot):
    """Some no of a lot in which all its parts change, or None."""
    lot = need_lot(need_fair(board), lot)
    rows = lot_marks(board, lot)
    inner = lot_contents(board, lot)
    for one, u in enumerate(inner):
        for other in range(one + 1, len(inner)):
            if len(differing_places(u, inner[other])) == len(lot):
                found = full_change(rows[one], rows[other])
                if found is not None:
                    outer = lot_contents(board, rest_of(board, lot))
                    return u, inner[other], outer[found[0]], outer[found[1]]
    return None


def fitting_settings(board, pairs, mark):
    """The settings with known contents and a mark, ascending."""
    fitting = []
    for number, setting in enumerate(all_settings(board.sizes)):
        if board.marks[number] == mark and all([setting[part] == content for part, content in pairs]):
            fitting.append(setting)
    return fitting


def count_fitting(board, pairs, mark):
    """How many settings have known contents and a mark."""
    return len(fitting_settings(need_fair(board), pairs, mark))


def nth_fitting(board, pairs, mark, number):
    """The setting of a number among those with known contents and a mark (any value)."""
    fitting = fitting_settings(need_fair(board), pairs, mark)
    if not is_below(number, len(fitting)):
        raise InvalidSize("number")
    return fitting[number]


def fitting_number(board, pairs, setting):
    """The number of a setting among those with known contents and its own mark, or None if its contents are others."""
    fitting = fitting_settings(need_fair(board), pairs, board(setting))
    setting = tuple(setting)
    return fitting.index(setting) if setting in fitting else None


def knowing_kinds(board, lot, mark):
    """For each of a lot's contents the number of what it and a mark leave of the rest."""
    lot = need_lot(need_fair(board), lot)
    left = [tuple([other == mark for other in row]) for row in lot_marks(board, lot)]
    return first_numbers(left)
