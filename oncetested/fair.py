"""Fair boards: each part, the others held anyhow, brings each mark just once."""

from oncetested.boards import all_settings, is_setting
from oncetested.errors import Refused
from oncetested.values import is_below


def first_twice(board, part):
    """The least setting, then content of a part above its own, that bring one mark, or None."""
    step = board.steps[part]
    for number, setting in enumerate(all_settings(board.sizes)):
        for content in range(setting[part] + 1, board.sizes[part]):
            if board.marks[number + step * (content - setting[part])] == board.marks[number]:
                return setting, content
    return None


def fair_fault(board):
    """The least fault of a board, or None for a fair one."""
    for part, size in enumerate(board.sizes):
        if size != board.many:
            return "size", part
    for part in range(len(board)):
        found = first_twice(board, part)
        if found is not None:
            return "twice", part, found[0], found[1]
    return None


def is_fair(board):
    """Whether a board is fair."""
    return fair_fault(board) is None


def twice_holds(board, part, setting, content):
    """Whether any values are a part, a setting, and a content above its own with the same mark."""
    if not is_below(part, len(board)) or not is_setting(board.sizes, setting):
        return False
    if not is_below(content, board.sizes[part]) or content <= setting[part]:
        return False
    other = setting[:part] + (content,) + setting[part + 1:]
    return board(setting) == board(other)


def fault_holds(board, value):
    """Whether any value is a true fault of a board."""
    if not isinstance(value, tuple):
        return False
    if len(value) == 2 and value[0] == "size":
        return is_below(value[1], len(board)) and board.sizes[value[1]] != board.many
    if len(value) == 4 and value[0] == "twice":
        return twice_holds(board, value[1], value[2], value[3])
    return False


def need_fair(board):
    """A fair board itself, else an error."""
    fault = fair_fault(board)
    if fault is not None:
        raise Refused(fault)
    return board
