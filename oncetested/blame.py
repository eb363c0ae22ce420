"""Which parts can be wrong if the readings of some strong lots are seen to be wrong, and of others to be right."""

from oncetested.boards import all_settings
from oncetested.errors import InvalidSize
from oncetested.fair import need_fair
from oncetested.looks import differing_places
from oncetested.shapes import is_leaf, parts_of
from oncetested.shown import reads_wrong
from oncetested.values import is_below


def added_counts(one, other):
    """Counts by the number of wrong parts, added up."""
    size = max(len(one), len(other))
    longer = [list(counts) + [0] * (size - len(counts)) for counts in (one, other)]
    return [longer[0][at] + longer[1][at] for at in range(size)]


def joined_counts(one, other):
    """Counts by the number of wrong parts of two trees together."""
    counts = [0] * (len(one) + len(other) - 1)
    for many, count in enumerate(one):
        for further, ways in enumerate(other):
            counts[many + further] += count * ways
    return counts


def leaf_counts(part, told):
    """For each pair of whether a leaf can be right, and whether it can be wrong, the counts of its lots."""
    counts = {}
    if part not in told or not told[part]:
        counts[(True, False)] = [1]
    if part not in told or told[part]:
        counts[(False, True)] = [0, 1]
    return counts


def child_counts(children):
    """The counts by how many children of a knot surely are wrong, one at most, and how many can be, two at most."""
    counts = {(0, 0): [1]}
    for child in children:
        wider = {}
        for sure, able in counts:
            for right, wrong in child:
                key = (max(sure, int(not right)), min(able + int(wrong), 2))
                ways = joined_counts(counts[(sure, able)], child[(right, wrong)])
                wider[key] = added_counts(wider.get(key, []), ways)
        counts = wider
    return counts


def knot_counts(children):
    """For each pair of whether a knot can be right, and whether it can be wrong, the counts of its lots."""
    counts = {}
    found = child_counts(children)
    for sure, able in found:
        # One wrong child alone makes it wrong; of two or more it may be either.
        key = (sure == 0 or able == 2, able > 0)
        counts[key] = added_counts(counts.get(key, []), found[(sure, able)])
    return counts


def seen_counts(counts, is_right, is_wrong):
    """The counts that are left of a leaf or knot, told whether it is seen to be right, and to be wrong."""
    left = {}
    for right, wrong in counts:
        key = (right and not is_wrong, wrong and not is_right)
        if any(key):
            left[key] = added_counts(left.get(key, []), counts[(right, wrong)])
    return left


def tree_counts(tree, wrong, right, told):
    """For each pair of whether a leaf or knot can be right, and can be wrong, the counts of lots that fit below it.

    Of some parts it is told whether they are wrong.
    """
    if is_leaf(tree):
        counts = leaf_counts(tree, told)
    else:
        counts = knot_counts([tree_counts(child, wrong, right, told) for child in tree[1]])
    parts = parts_of(tree)
    return seen_counts(counts, parts in right, parts in wrong)


def told_counts(shape, wrong, right, told):
    """For each number of parts how many lots of so many fit, told of some parts whether they are wrong."""
    wrong = [tuple(lot) for lot in wrong]
    right = [tuple(lot) for lot in right]
    whole = [0] * (len(parts_of(shape)) + 1)
    for counts in tree_counts(shape, wrong, right, told).values():
        whole = added_counts(whole, counts)
    return whole


def blame_counts(shape, wrong, right):
    """For each number of parts, from none to all, how many lots of so many fit."""
    return tuple(told_counts(shape, wrong, right, {}))


def blame_fits(shape, wrong, right, lot):
    """Whether a lot of wrong parts fits what is seen."""
    told = {part: part in lot for part in parts_of(shape)}
    return any(told_counts(shape, wrong, right, told))


def nth_blame(shape, wrong, right, size, number):
    """The lot of a number among those of so many parts that fit (any value)."""
    counts = told_counts(shape, wrong, right, {})
    if not is_below(size, len(counts)) or not is_below(number, counts[size]):
        raise InvalidSize("number")
    told = {}
    for part in parts_of(shape):
        # Of lots of one length those with the lesser parts come first.
        told[part] = True
        count = told_counts(shape, wrong, right, told)[size]
        if number >= count:
            number -= count
            told[part] = False
    return tuple([part for part in parts_of(shape) if told[part]])


def is_seen(board, setting, other, lots, wrong):
    """Whether the readings of some lots are wrong, or right, at another setting than the right one."""
    return all([reads_wrong(board, lot, setting, other) == wrong for lot in lots])


def blame_setting(board, setting, wrong, right, lot):
    """The least setting that differs from one in just the parts of a lot and is seen so, or None."""
    need_fair(board)
    for other in all_settings(board.sizes):
        if differing_places(setting, other) == tuple(lot):
            if is_seen(board, setting, other, wrong, True) and is_seen(board, setting, other, right, False):
                return other
    return None
