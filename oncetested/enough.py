"""How many tries are enough, and what shows that fewer are not."""

from itertools import combinations

from oncetested.boards import is_setting, lot_contents, lot_sizes
from oncetested.errors import InvalidSize
from oncetested.tries import need_few_tries, tried_marks
from oncetested.values import bits_lot, count_bits

MOST_LISTED = 16


def tried_rows(board, lot):
    """The contents of a lot, its tries, and for each content the marks at all tries."""
    lot, parts = need_few_tries(board, lot)
    return lot_contents(board, lot), lot_contents(board, parts), tried_marks(board, lot, parts)


def noticed_bits(one, other):
    """The tries, as bits, that notice the change between two rows of marks."""
    return sum([1 << at for at, mark in enumerate(one) if mark != other[at]])


def noticed_lots(rows):
    """The lots of tries, as bits, that notice some change, each with the numbers of such two rows."""
    kinds = {}
    for number, row in enumerate(rows):
        kinds.setdefault(row, number)
    found = {}
    numbers = list(kinds.values())
    for at, one in enumerate(numbers):
        for other in numbers[at + 1:]:
            found.setdefault(noticed_bits(rows[one], rows[other]), (one, other))
    return found


def least_lots(lots):
    """The lots, as bits, with no other one of them within."""
    least = []
    # A lot is a greater number than each one within it.
    for bits in sorted(lots):
        if not any([bits & other == other for other in least]):
            least.append(bits)
    return least


def told_tries(tries, bits):
    """The tries of a lot that is told as bits."""
    return tuple([tries[at] for at in bits_lot(bits)])


def greatest_passed(board, lot):
    """The greatest lots of tries at which some change stays that is noticed somewhere, ascending."""
    _, tries, rows = tried_rows(board, lot)
    whole = (1 << len(tries)) - 1
    least = least_lots(list(noticed_lots(rows)))
    return tuple(sorted([told_tries(tries, whole - bits) for bits in least]))


def leaving_lots(many, noticed):
    """For each lot of many tries, as bits, whether it has no try in common with one of some lots."""
    whole = (1 << many) - 1
    leaving = [False] * (whole + 1)
    for bits in noticed:
        leaving[whole - bits] = True
    for bits in reversed(range(whole + 1)):
        if leaving[bits]:
            for at in bits_lot(bits):
                leaving[bits - (1 << at)] = True
    return leaving


def counted_first(lot):
    """Shorter lots first, else ascending."""
    return len(lot), lot


def least_enough(board, lot):
    """The lots of tries that are enough, and with any try less are not, fewest first, then ascending."""
    _, tries, rows = tried_rows(board, lot)
    if len(tries) > MOST_LISTED:
        raise InvalidSize("tries")
    leaving = leaving_lots(len(tries), least_lots(list(noticed_lots(rows))))
    least = []
    for bits, wanting in enumerate(leaving):
        if not wanting and all([leaving[bits - (1 << at)] for at in bits_lot(bits)]):
            least.append(told_tries(tries, bits))
    return tuple(sorted(least, key=counted_first))


def seen_changes(many, noticed):
    """For each of many tries the changes that it notices, as bits, and all changes; the hardest come first."""
    changes = sorted([(count_bits(bits), bits) for bits in least_lots(noticed)])
    seen = [0] * many
    for number, (_, tries) in enumerate(changes):
        for at in bits_lot(tries):
            seen[at] += 1 << number
    return seen, (1 << len(changes)) - 1


def can_see(seen, left, often):
    """Whether so many of some tries notice all changes that are left, as bits."""
    if left == 0:
        return True
    useful = sorted(set([bits & left for bits in seen]))
    ranked = sorted([(count_bits(bits), bits) for bits in useful])[::-1]
    if sum([count for count, _ in ranked[:often]]) < count_bits(left):
        return False
    # Some try notices the first change: each such one is sought with those that were not sought before it.
    first = left & -left
    others = [bits for _, bits in ranked if not bits & first]
    hits = [bits for _, bits in ranked if bits & first]
    for at, bits in enumerate(hits):
        if can_see(others + hits[at + 1:], left - bits, often - 1):
            return True
    return False


def fewest_tries(board, lot):
    """The first of all lots of tries that are enough, the smallest first."""
    _, tries, rows = tried_rows(board, lot)
    seen, left = seen_changes(len(tries), list(noticed_lots(rows)))
    often = 0
    while not can_see(seen, left, often):
        often += 1
    chosen = []
    for at, bits in enumerate(seen):
        # Where the others can be sought among later tries, this one is the least that can come next.
        if often and can_see(seen[at + 1:], left - (left & bits), often - 1):
            chosen.append(tries[at])
            left = left - (left & bits)
            often -= 1
    return tuple(chosen)


def fewer_changes(board, lot):
    """Some changes, each noticed, that fewer than the fewest tries do not all notice."""
    contents, _, rows = tried_rows(board, lot)
    found = noticed_lots(rows)
    changes = [found[bits] for bits in least_lots(list(found))]
    return tuple([(contents[one], contents[other]) for one, other in changes])


def change_bits(sizes, contents, rows, value):
    """The tries, as bits, that notice any value as a change; 0 if it is none."""
    if not isinstance(value, tuple) or len(value) != 2:
        return 0
    if not is_setting(sizes, value[0]) or not is_setting(sizes, value[1]):
        return 0
    return noticed_bits(rows[contents.index(value[0])], rows[contents.index(value[1])])


def fewer_holds(board, lot, many, value):
    """Whether any value is noticed changes, of which each lot of less than many tries leaves one unnoticed."""
    contents, tries, rows = tried_rows(board, lot)
    if not isinstance(value, tuple):
        return False
    noticed = [change_bits(lot_sizes(board, lot), contents, rows, change) for change in value]
    if not all(noticed):
        return False
    seen, left = seen_changes(len(tries), noticed)
    return many == 0 or not can_see(seen, left, many - 1)


def surely_enough(board, lot):
    """The least number of unlike tries that are always enough, and the least change for which fewer are not."""
    contents, tries, rows = tried_rows(board, lot)
    found = noticed_lots(rows)
    if not found:
        return 0, None
    fewest = min([count_bits(bits) for bits in found])
    changes = [(one, other) for one, other in combinations(range(len(rows)), 2)
               if count_bits(noticed_bits(rows[one], rows[other])) == fewest]
    one, other = changes[0]
    return len(tries) - fewest + 1, (contents[one], contents[other])
