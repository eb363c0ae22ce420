"""Sheets that settle questions: of the kind asked for, or of its contrary."""

from oncetested.blocks import block_bits, odd_road
from oncetested.checker import PAIRED_KINDS, as_tuples, row_name
from oncetested.enough import fewer_changes, fewest_tries
from oncetested.errors import NoName
from oncetested.facts import closed_shape, fact_paper, shape_board
from oncetested.groups import element_orders, group_match
from oncetested.pairs import product_at
from oncetested.parted import gathered_net, net_no
from oncetested.readings import least_no, lot_reading
from oncetested.renewals import barred_setting, led_renewal
from oncetested.splits import clash_split, sure_split
from oncetested.squares import open_square, square_group
from oncetested.sums import mark_by
from oncetested.tries import unnoticed_change


def paired_kinds(kind):
    """Both kinds of the row of any value, else an error."""
    for pair in PAIRED_KINDS:
        if isinstance(kind, str) and kind in pair:
            return pair
    raise NoName(kind)


def contrary_kind(kind):
    """The other kind of the row of any value."""
    one, other = paired_kinds(kind)
    return other if kind == one else one


def settle_lot(board, lot):
    """The reading and rows of a one-test lot, or None; a no of another one."""
    pair = lot_reading(board, lot)
    return pair, least_no(board, lot) if pair is None else None


def settle_blocks(board, one, other):
    """A road between two parts of one block, or None; the bits of all blocks."""
    return odd_road(board, one, other), block_bits(board)


def settle_follow(many, lots, lot):
    """The steps to a lot that follows, or None; a board in which another one is not one-test."""
    steps = fact_paper(many, lots, lot)
    return steps, shape_board(closed_shape(many, lots)) if steps is None else None


def settle_net(net, lot):
    """A net that brings a one-test lot together, or None; a no of another one."""
    gathered = gathered_net(net, lot)
    return gathered, net_no(net, lot) if gathered is None else None


def settle_match(one, other):
    """The first match of two groups, or None; an order that unlike numbers of elements have."""
    orders = (element_orders(one), element_orders(other))
    unlike = [order for order in orders[0] + orders[1] if orders[0].count(order) != orders[1].count(order)]
    return group_match(one, other), min(unlike, default=None)


def settle_square(rows):
    """The group of a square, or None; eight numbers that show that another one has none."""
    return square_group(rows), open_square(rows)


def settle_tries(board, lot, tries):
    """Nothing for tries that are enough, or None; a change that others leave unnoticed."""
    change = unnoticed_change(board, lot, tries)
    return () if change is None else None, change


def settle_number(board, lot, number):
    """So many tries at most that are enough, or None; changes that they do not all notice."""
    tries = fewest_tries(board, lot)
    return tries if len(tries) <= number else None, fewer_changes(board, lot)


def settle_renewal(board, lot, u, v):
    """The renewal that leads u to v, or None; a setting that bars it."""
    return led_renewal(board, lot, u, v), barred_setting(board, lot, u, v)


def settle_pairs(pairs, a, b, mark):
    """A road with a mark that is sure, or None; readings that bring another one."""
    marked = pairs.other_readings(a, b, mark)
    lefts, rights = pairs.some_readings()
    if marked is None or product_at(pairs, lefts + rights, a, b) != mark:
        return None, (lefts, rights)
    further = [other for other in range(pairs.group.size) if other != mark]
    return pairs.case_road(a, b), pairs.other_readings(a, b, further[0])


def settle_told(told, setting, mark):
    """A split for a mark that is sure, or None; names that bring another one."""
    others = [names for brought, names in told.can_be(setting) if brought != mark]
    return (None, others[0]) if others else (sure_split(told, setting), None)


def settle_sums(sums, setting, mark):
    """Numbers that make a mark that is sure, or None; readings that bring another one."""
    if sums.sure_mark(setting) == mark:
        return sums.sure_numbers(setting), None
    readings = sums.some_readings()
    if mark_by(sums, readings, setting) == mark:
        # Turns keep the marks of all cases, and change this one.
        turned = []
        for row, turns in zip(readings, sums.open_turns(setting)):
            turned.append(tuple([sums.group.product(both) for both in zip(row, turns)]))
        readings = tuple(turned)
    return None, readings


def settle_pairs_clash(pairs):
    """A ring that shows that no readings fit, or None; some that fit."""
    return pairs.case_ring(), pairs.some_readings()


def settle_told_clash(told):
    """A split that shows that no names fit, or None; some that fit."""
    names = told.all_names()
    return clash_split(told), names[0] if names else None


def settle_sums_clash(sums):
    """A pair that shows that no readings fit, or None; some that fit."""
    return sums.clash_paper(), sums.some_readings()


# For each row of kinds what gives the value of the first kind, or None, and that of the second one.
SETTLERS = {
    "one-test": settle_lot,
    "one block": settle_blocks,
    "follows": settle_follow,
    "net one-test": settle_net,
    "matched": settle_match,
    "group": settle_square,
    "settled": settle_tries,
    "enough": settle_number,
    "renewal": settle_renewal,
    "sure pairs": settle_pairs,
    "sure told": settle_told,
    "sure sums": settle_sums,
    "clash pairs": settle_pairs_clash,
    "clash told": settle_told_clash,
    "clash sums": settle_sums_clash,
}


def settled_sheet(kind, question):
    """Some sheet of a question that holds, of the kind or of its contrary (any value as a kind)."""
    one, other = paired_kinds(kind)
    asked = as_tuples(question)
    action = SETTLERS[row_name(kind, asked)]
    value, further = action(*asked)
    return (other, asked, further) if value is None else (one, asked, value)
