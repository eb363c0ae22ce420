"""Sheets: a kind, a question and a value that shows the answer; here they are held without seeking anything."""

from oncetested.blocks import bits_hold, need_parts, odd_road_holds
from oncetested.boards import Board, is_setting, need_lot
from oncetested.enough import fewer_holds
from oncetested.errors import BoardError
from oncetested.facts import fact_holds
from oncetested.fair import is_fair
from oncetested.forms import Form
from oncetested.groups import Group, element_orders, named_rows
from oncetested.hulls import shown_hull
from oncetested.looks import no_holds
from oncetested.movers import mover_holds
from oncetested.nets import Net
from oncetested.pairs import Pairs, case_ring_holds, case_road_holds, pairs_fit, product_at, road_mark
from oncetested.parted import gathered_holds, net_no_holds
from oncetested.readings import one_test, reading_holds
from oncetested.renamings import is_renaming
from oncetested.renewals import barred_holds, is_renewal, led_contents, need_change
from oncetested.roads import renewal_road_holds
from oncetested.splits import clash_split_holds, split_holds
from oncetested.squares import open_holds, square_group
from oncetested.sums import Sums, case_mark, clash_holds, mark_by, numbers_hold, readings_hold
from oncetested.told import Told, named_mark
from oncetested.tries import noticed_tries, unnoticed_change
from oncetested.values import is_below, is_between, is_integer, is_permutation, same_value

# The two kinds of each row: a question never has sheets of both.
PAIRED_KINDS = (
    ("one-test", "not one-test"),
    ("one block", "two blocks"),
    ("follows", "need not follow"),
    ("net one-test", "not net one-test"),
    ("matched", "unmatched"),
    ("group", "open square"),
    ("settled", "unsettled"),
    ("enough", "too few"),
    ("renewal", "barred"),
    ("sure", "can be other"),
    ("clash", "fits"),
)
SINGLE_KINDS = ("hull", "renamed", "parted", "mover", "road")

# What stands in the questions of each row; "any" is told to be wrong by the errors of what is asked.
QUESTIONS = {
    "one-test": "board any",
    "one block": "board any any",
    "follows": "many row any",
    "net one-test": "net any",
    "matched": "group group",
    "group": "any",
    "settled": "board any any",
    "enough": "board any number",
    "renewal": "board any any any",
    "sure pairs": "pairs any any any",
    "sure told": "told any any",
    "sure sums": "sums any any",
    "clash pairs": "pairs",
    "clash told": "told",
    "clash sums": "sums",
    "hull": "board any any",
    "renamed": "form form",
    "parted": "form form",
    "mover": "board any",
    "road": "board row any any",
}


def is_lot_sheet(kind, board, lot, value):
    """Whether a value shows that a lot is one-test, or is not."""
    return reading_holds(board, lot, value) if kind == "one-test" else no_holds(board, lot, value)


def is_block_sheet(kind, board, one, other, value):
    """Whether a value shows that two parts are in one block, or in two."""
    need_parts(board, one, other)
    if kind == "one block":
        return odd_road_holds(board, one, other, value)
    return bits_hold(board, value) and not any([one in lot and other in lot for lot in value[0]])


def is_follow_sheet(kind, many, lots, lot, value):
    """Whether a value shows that a lot follows from told ones, or need not follow."""
    parts = tuple(range(many))
    for other in lots + (lot,):
        need_lot(parts, other)
    if kind == "follows":
        return fact_holds(many, lots, lot, value)
    if not isinstance(value, Board) or len(value) != many or not is_fair(value):
        return False
    return all([one_test(value, other) for other in lots]) and not one_test(value, lot)


def is_net_sheet(kind, net, lot, value):
    """Whether a value shows that a lot of a net is one-test, or is not."""
    return gathered_holds(net, lot, value) if kind == "net one-test" else net_no_holds(net, lot, value)


def is_match_sheet(kind, one, other, value):
    """Whether a value shows that two groups have a match, or have none."""
    if kind == "unmatched":
        return is_integer(value) and element_orders(one).count(value) != element_orders(other).count(value)
    if one.size != other.size or not isinstance(value, tuple) or not is_permutation(value, one.size):
        return False
    return named_rows(one.rows, value, value, value) == other.rows


def is_group_sheet(kind, rows, value):
    """Whether a value shows that a square is that of a group, or is not."""
    group = square_group(rows)
    if kind == "group":
        return isinstance(value, Group) and value == group
    return open_holds(rows, value)


def is_settled_sheet(kind, board, lot, tries, value):
    """Whether a value shows that tries are enough, or are not."""
    change = unnoticed_change(board, lot, tries)
    if not isinstance(value, tuple):
        return False
    if kind == "settled":
        return len(value) == 0 and change is None
    if len(value) != 3 or not isinstance(value[0], tuple) or not isinstance(value[1], tuple):
        return False
    noticed = noticed_tries(board, lot, value[0], value[1])
    if value[0] >= value[1] or any([place in noticed for place in tries]):
        return False
    return any([same_value(value[2], place) for place in noticed])


def is_enough_sheet(kind, board, lot, number, value):
    """Whether a value shows that some so many tries are enough, or that none are."""
    if kind == "too few":
        return fewer_holds(board, lot, number + 1, value)
    if not isinstance(value, tuple) or len(value) > number or not all([isinstance(place, tuple) for place in value]):
        return False
    return unnoticed_change(board, lot, value) is None


def is_renewal_sheet(kind, board, lot, u, v, value):
    """Whether a value shows that a renewal leads u to v, or that none does."""
    if kind == "barred":
        return barred_holds(board, lot, u, v, value)
    lot, u, v = need_change(board, lot, u, v)
    return is_renewal(board, lot, value) and led_contents(value, u) == v


def is_pairs_sheet(kind, pairs, a, b, mark, value):
    """Whether a value shows that two contents surely have a mark, or can have another one."""
    if not is_below(a, pairs.left) or not is_below(b, pairs.right) or not is_below(mark, pairs.group.size):
        return False
    if kind == "sure":
        return case_road_holds(pairs, a, b, value) and road_mark(pairs, value) == mark
    return pairs_fit(pairs, value) and product_at(pairs, value[0] + value[1], a, b) != mark


def is_told_sheet(kind, told, setting, mark, value):
    """Whether a value shows that a setting surely has a mark, or can have another one, by names."""
    if not is_setting(told.form.sizes, setting) or not is_below(mark, told.form.many):
        return False
    if kind == "sure":
        return split_holds(told, setting, mark, value)
    return told.names_fit(value) and named_mark(told.form, value, setting) != mark


def is_sums_sheet(kind, sums, setting, mark, value):
    """Whether a value shows that a setting surely has a mark, or can have another one, by readings."""
    if not is_setting(sums.sizes, setting) or not is_below(mark, sums.group.size):
        return False
    if kind == "sure":
        return numbers_hold(sums, setting, value) and case_mark(sums, value) == mark
    return readings_hold(sums, value) and mark_by(sums, value, setting) != mark


def is_pairs_clash(kind, pairs, value):
    """Whether a value shows that no readings of both sides fit, or that some do."""
    return case_ring_holds(pairs, value) if kind == "clash" else pairs_fit(pairs, value)


def is_told_clash(kind, told, value):
    """Whether a value shows that no names fit, or that some do."""
    return clash_split_holds(told, value) if kind == "clash" else told.names_fit(value)


def is_sums_clash(kind, sums, value):
    """Whether a value shows that no readings of parts fit, or that some do."""
    return clash_holds(sums, value) if kind == "clash" else readings_hold(sums, value)


def is_hull_sheet(kind, board, lot, hull, value):
    """Whether a value shows that one lot is the hull of another one."""
    return shown_hull(board, lot, value) == need_lot(board, hull)


def is_renamed_sheet(kind, one, other, value):
    """Whether a value is a renaming of one form into another one."""
    return is_renaming(one, other, value)


def is_parted_sheet(kind, one, other, value):
    """Whether a value is a setting to which two forms bring unlike marks."""
    if one.many != other.many or not is_setting(one.sizes, value) or len(other) != len(one):
        return False
    return one(value) != other(value)


def is_mover_sheet(kind, board, part, value):
    """Whether a value is a mover of a part."""
    return mover_holds(board, part, value)


def is_road_sheet(kind, board, lots, setting, other, value):
    """Whether a value is a road from one setting to another one."""
    return renewal_road_holds(board, lots, setting, other, value)


CHECKS = {
    "one-test": is_lot_sheet,
    "one block": is_block_sheet,
    "follows": is_follow_sheet,
    "net one-test": is_net_sheet,
    "matched": is_match_sheet,
    "group": is_group_sheet,
    "settled": is_settled_sheet,
    "enough": is_enough_sheet,
    "renewal": is_renewal_sheet,
    "sure pairs": is_pairs_sheet,
    "sure told": is_told_sheet,
    "sure sums": is_sums_sheet,
    "clash pairs": is_pairs_clash,
    "clash told": is_told_clash,
    "clash sums": is_sums_clash,
    "hull": is_hull_sheet,
    "renamed": is_renamed_sheet,
    "parted": is_parted_sheet,
    "mover": is_mover_sheet,
    "road": is_road_sheet,
}


def as_tuples(value):
    """Any value with tuples for lists, also within."""
    if isinstance(value, (list, tuple)):
        return tuple([as_tuples(part) for part in value])
    return value


def case_word(value):
    """The word of any value that has cases."""
    if isinstance(value, Pairs):
        return "pairs"
    if isinstance(value, Told):
        return "told"
    return "sums" if isinstance(value, Sums) else "none"


def row_name(kind, question):
    """The name of the row of any string as a kind, and of what has the cases of a question; or none."""
    names = [pair[0] for pair in PAIRED_KINDS if kind in pair] + [name for name in SINGLE_KINDS if name == kind]
    if not names:
        return "none"
    if names[0] in ("sure", "clash") and question:
        return f"{names[0]} {case_word(question[0])}"
    return names[0]


def is_of_word(word, value):
    """Whether any value is what a word of a question asks for."""
    if word == "board":
        return isinstance(value, Board)
    if word == "net":
        return isinstance(value, Net)
    if word == "form":
        return isinstance(value, Form)
    if word == "group":
        return isinstance(value, Group)
    if word == "many":
        return is_between(value, 1, 8)
    if word == "number":
        return is_integer(value) and value >= 0
    if word == "row":
        return isinstance(value, tuple)
    return word == "any" or word == case_word(value)


def is_asked(name, question):
    """Whether a question is one of a row."""
    words = QUESTIONS[name].split(" ") if name in QUESTIONS else []
    if not words or len(words) != len(question):
        return False
    return all([is_of_word(word, value) for word, value in zip(words, question)])


def sheet_holds(kind, question, value):
    """Whether any three values are a sheet that holds."""
    if not isinstance(kind, str) or not isinstance(question, tuple):
        return False
    asked = as_tuples(question)
    name = row_name(kind, asked)
    if not is_asked(name, asked):
        return False
    action = CHECKS[name]
    try:
        return action(kind, *asked, value)
    except BoardError:
        return False


def wrong_sheets(sheets):
    """The numbers of any values that are no sheets that hold, ascending."""
    wrong = []
    for number, sheet in enumerate(sheets):
        if not isinstance(sheet, tuple) or len(sheet) != 3 or not sheet_holds(sheet[0], sheet[1], sheet[2]):
            wrong.append(number)
    return tuple(wrong)
