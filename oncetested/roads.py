"""Roads: settings to which renewals lead, one after another."""

from oncetested.boards import need_lot, need_setting, nth_setting, setting_number
from oncetested.fair import need_fair
from oncetested.putting import all_steps
from oncetested.renewals import is_renewal, led_parts, lot_renewals
from oncetested.values import is_below


def need_lots(board, lots):
    """Lots of a fair board as tuples, else an error."""
    need_fair(board)
    return [need_lot(board, lot) for lot in lots]


def led_numbers(board, lot, rows):
    """For the number of each setting that of the setting to which rows of a lot lead it."""
    steps = all_steps(board)
    for part, row in zip(lot, rows):
        steps[part] = [board.steps[part] * content for content in row]
    numbers = [0]
    for row in steps:
        numbers = [number + step for number in numbers for step in row]
    return numbers


def all_moves(board, lots):
    """For each renewal of each lot, in order: the lot's number, the renewal, and where it leads each setting."""
    moves = []
    for number, lot in enumerate(lots):
        moves.extend([(number, rows, led_numbers(board, lot, rows)) for rows in lot_renewals(board, lot)])
    return moves


def steps_from(moves, start):
    """For each setting that is reached from one the fewest steps, all by their numbers."""
    steps = {start: 0}
    waiting = [start]
    at = 0
    while at < len(waiting):
        here = waiting[at]
        for _, _, led in moves:
            if led[here] not in steps:
                steps[led[here]] = steps[here] + 1
                waiting.append(led[here])
        at += 1
    return steps


def reached_settings(board, lots, setting):
    """All settings to which renewals of some lots lead one, ascending."""
    lots = need_lots(board, lots)
    start = setting_number(board.sizes, need_setting(board.sizes, setting))
    reached = sorted(list(steps_from(all_moves(board, lots), start)))
    return tuple([nth_setting(board.sizes, number) for number in reached])


def renewal_road(board, lots, setting, other):
    """The least of the fewest steps by which renewals lead from one setting to another one, or None."""
    lots = need_lots(board, lots)
    here = setting_number(board.sizes, need_setting(board.sizes, setting))
    end = setting_number(board.sizes, need_setting(board.sizes, other))
    moves = all_moves(board, lots)
    # Renewals lead back as well, so there are as many steps to the end as from it.
    steps = steps_from(moves, end)
    if here not in steps:
        return None
    road = []
    while here != end:
        nearer = [(number, rows, led[here]) for number, rows, led in moves if steps[led[here]] < steps[here]]
        number, rows, here = nearer[0]
        road.append((number, rows))
    return tuple(road)


def is_step(board, lots, value):
    """Whether any value is the number of a lot and a renewal of it."""
    if not isinstance(value, tuple) or len(value) != 2 or not is_below(value[0], len(lots)):
        return False
    return is_renewal(board, lots[value[0]], value[1])


def renewal_road_holds(board, lots, setting, other, value):
    """Whether any value is steps by which renewals lead from one setting to another one."""
    lots = need_lots(board, lots)
    here = need_setting(board.sizes, setting)
    end = need_setting(board.sizes, other)
    if not isinstance(value, tuple):
        return False
    for step in value:
        if not is_step(board, lots, step):
            return False
        here = led_parts(lots[step[0]], step[1], here)
    return here == end


def reach_lots(board, lots):
    """All settings in lots of those that are reached from one another, by the least."""
    moves = all_moves(board, need_lots(board, lots))
    known = {}
    found = []
    for number in range(len(board.marks)):
        if number not in known:
            reached = sorted(list(steps_from(moves, number)))
            for other in reached:
                known[other] = True
            found.append(tuple([nth_setting(board.sizes, other) for other in reached]))
    return tuple(found)
