"""[1], [2] for every function: lists for sequences, arguments by name, tuples that come back, nothing that changes."""

import copy
import importlib
import unittest

from oncetested.boards import Board
from oncetested.forms import board_form
from oncetested.groups import Group
from oncetested.nets import Net
from oncetested.pairs import Pairs
from oncetested.sums import Sums
from oncetested.told import Told
from support import as_lists, cycle_rows, has_lists, latin, odd_board, permutation_rows, seeded, sums_board

ODD = odd_board()
NO = ((0, 0), (2, 2), (2,), (0,))
SHAPE = ("line", (0, ("free", (1, 3, 4)), 2))
SIX = Group(permutation_rows([(1, 2, 0), (1, 0, 2)]))
PAIRS = Pairs(SIX, 3, 3, ((0, 0, 1), (1, 0, 2), (1, 1, 3), (0, 1, 5), (0, 0, 2)))
FIT = sums_board()
LOT = {"board": ODD, "lot": (0, 1)}
CHANGE = {"board": ODD, "lot": (0, 1), "u": (0, 0), "v": (2, 2)}
RENEWAL = ((1, 0, 3, 2), (1, 0, 3, 2))
FIVE = latin(seeded(2), 5)
BOTH = tuple(a ^ b for a in range(4) for b in range(4))
NET = Net(4, 3, [(BOTH, (0, 1)), ((1, 0, 3, 2), (3,)), (BOTH, (4, 2))])
OTHER_NET = Net(4, 3, [(BOTH, (0, 1)), ((0, 1, 2, 3), (3,)), (BOTH, (4, 2))])
FORM = board_form(ODD)
TOLD = {"many": 4, "lots": ((0, 1), (1, 2))}
TWO = Board(2, (2, 2, 2), (0, 1, 0, 1, 0, 1, 1, 0))
ZEROS, ONES = (0, 0, 0), (1, 1, 1)
SUMS = Sums(Group(cycle_rows(3)), (2, 2), (((0, 0), 1), ((1, 0), 2), ((0, 1), 0)))

HELD = {"board": ODD, "pairs": ((0, 2),)}
SEEN = {"shape": SHAPE, "wrong": ((0, 1, 2, 3, 4),), "right": ((1, 3, 4), (2,))}
TOLD_FORM = Told(FORM, (((1, 0, 0), 0), ((2, 0, 0), 3), ((0, 1, 0), 0), ((0, 2, 0), 2)))
CLASH_FORM = Told(FORM, TOLD_FORM.cases + (((1, 0, 0), 1),))
ODD_NET = Net(4, 3, [(ODD.marks, (0, 1, 2))])

# The module, the function, its arguments by name, and those of them that may be lists.
CALLS = [
    ("boards", "all_settings", {"sizes": (2, 3)}, "sizes"),
    ("boards", "setting_number", {"sizes": (2, 3), "setting": (1, 1)}, "sizes setting"),
    ("boards", "nth_setting", {"sizes": (2, 3), "number": 4}, "sizes"),
    ("boards", "is_setting", {"sizes": (2, 3), "value": (1, 2)}, "sizes"),
    ("boards", "need_lot", {"board": ODD, "value": (0, 2)}, "value"),
    ("boards", "rest_of", {"board": ODD, "lot": (0, 2)}, "lot"),
    ("boards", "lot_contents", {"board": ODD, "lot": (0, 2)}, "lot"),
    ("boards", "joined_setting", {"board": ODD, "lot": (0, 2), "inside": (1, 2), "outside": (3,)}, "lot inside outside"),
    ("boards", "parted_setting", {"board": ODD, "lot": (0, 2), "setting": (1, 2, 3)}, "lot setting"),
    ("boards", "lot_marks", {"board": ODD, "lot": (0, 2)}, "lot"),
    ("fair", "fair_fault", {"board": Board(2, [2, 2], [0, 1, 1, 1])}, ""),
    ("fair", "is_fair", {"board": ODD}, ""),
    ("fair", "need_fair", {"board": ODD}, ""),
    ("fair", "fault_holds", {"board": ODD, "value": ("twice", 0, (0, 0, 0), 1)}, ""),
    ("looks", "change_stays", {"board": ODD, "lot": (0, 1), "u": (0, 0), "v": (2, 2), "w": (2,)}, "lot u v w"),
    ("looks", "stay_places", {"board": ODD, "lot": (0, 1), "u": (0, 0), "v": (2, 2)}, "lot u v"),
    ("looks", "no_holds", {"board": ODD, "lot": (0, 1), "value": NO}, "lot"),
    ("looks", "differing_places", {"one": (0, 1), "other": (0, 2)}, "one other"),
    ("looks", "mixed_contents", {"u": (0, 1), "v": (0, 2)}, "u v"),
    ("looks", "near_no", {"board": ODD, "lot": (0, 1), "no": NO}, "lot"),
    ("looks", "smaller_no", {"board": ODD, "lot": (0, 1), "no": NO}, "lot"),
    ("looks", "cut_no", {"board": ODD, "lot": (0, 1), "no": NO}, "lot"),
    ("looks", "is_full", {"board": ODD, "part": 2}, ""),
    ("looks", "pivot_no", {"board": ODD, "lot": (0, 1), "no": NO, "part": 0}, "lot"),
    ("looks", "stubborn_board", {"many": 3}, ""),
    ("shapes", "need_shape", {"value": SHAPE}, ""),
    ("shapes", "is_shape", {"value": SHAPE}, ""),
    ("shapes", "parts_of", {"shape": SHAPE}, ""),
    ("shapes", "strong_lots", {"shape": SHAPE}, ""),
    ("shapes", "knot_there", {"shape": SHAPE, "lot": (1, 3, 4)}, "lot"),
    ("shapes", "is_inner", {"shape": SHAPE, "lot": (1, 3)}, "lot"),
    ("shapes", "lot_place", {"shape": SHAPE, "lot": (1, 3)}, "lot"),
    ("shapes", "inner_hull", {"shape": SHAPE, "lot": (0, 3)}, "lot"),
    ("shapes", "crossing_lot", {"shape": SHAPE, "lot": (1, 3)}, "lot"),
    ("shapes", "count_lots", {"shape": SHAPE}, ""),
    ("shapes", "nth_lot", {"shape": SHAPE, "number": 5}, ""),
    ("shapes", "lot_number", {"shape": SHAPE, "lot": (1, 3)}, "lot"),
    ("groups", "element_order", {"group": SIX, "x": 3}, ""),
    ("groups", "element_orders", {"group": SIX}, ""),
    ("groups", "order_profile", {"group": SIX}, ""),
    ("groups", "is_commutative", {"group": SIX}, ""),
    ("groups", "made_part", {"group": SIX, "lot": (4, 1)}, "lot"),
    ("groups", "fewest_makers", {"group": SIX}, ""),
    ("groups", "centralizer_of", {"group": SIX, "lot": (4, 4)}, "lot"),
    ("groups", "centre_of", {"group": SIX}, ""),
    ("groups", "parting_makers", {"group": SIX}, ""),
    ("groups", "element_classes", {"group": SIX}, ""),
    ("groups", "retest_ratio", {"group": SIX}, ""),
    ("groups", "group_matches", {"one": SIX, "other": SIX}, ""),
    ("groups", "group_match", {"one": SIX, "other": SIX}, ""),
    ("groups", "turned_group", {"group": SIX}, ""),
    ("groups", "named_group", {"group": SIX, "row": (1, 0, 2, 5, 4, 3)}, "row"),
    ("groups", "extended_group", {"group": Group(cycle_rows(3)), "turn": (0, 2, 1), "many": 2, "extra": 0}, "turn"),
    ("pairs", "road_mark", {"pairs": PAIRS, "road": (0, 1, 2)}, "road"),
    ("pairs", "case_road_holds", {"pairs": PAIRS, "a": 0, "b": 1, "value": (0, 1, 2)}, ""),
    ("pairs", "case_ring_holds", {"pairs": PAIRS, "value": (0, 4)}, ""),
    ("pairs", "pairs_fit", {"pairs": PAIRS, "value": ((0, 0, 0), (0, 0, 0))}, ""),
    ("putting", "led_board", {"board": ODD, "part": 1, "row": (3, 3, 0)}, "row"),
    ("putting", "marked_board", {"board": ODD, "row": (1, 0, 0, 1), "many": 2}, "row"),
    ("putting", "marked_board", {"board": ODD, "row": (1, 0, 0, 1)}, "row"),
    ("putting", "turned_board", {"board": ODD, "order": (2, 0, 1)}, "order"),
    ("putting", "held_board", {"board": ODD, "part": 1, "content": 3}, ""),
    ("putting", "layered_board", {"boards": (ODD, FIT), "part": 1}, "boards"),
    ("putting", "put_boards", {"outer": ODD, "inners": (None, FIT, None)}, "inners"),
    ("putting", "put_board", {"outer": ODD, "part": 1, "inner": FIT}, ""),
    ("putting", "tied_board", LOT, "lot"),
    ("putting", "twin_lots", {"board": ODD, "part": 1}, ""),
    ("putting", "merged_names", {"board": ODD}, ""),
    ("putting", "merged_board", {"board": ODD}, ""),
    ("trades", "exchange_lots", {"board": ODD, "one": 1, "other": 3}, ""),
    ("trades", "exchanged_board", {"board": ODD, "one": 1, "other": 3, "settings": ()}, "settings"),
    ("trades", "filled_marks", {"many": 2, "parts": 2, "marks": (0, None, None, None)}, "marks"),
    ("trades", "filled_marks", {"many": 2, "parts": 2, "marks": (0, None, None, 0)}, "marks"),
    ("trades", "sum_board", {"many": 5, "base": -7, "rows": ((0, 9), (-3, 4, 5))}, "rows"),
    ("trades", "sum_paper", {"board": FIT}, ""),
    ("readings", "lot_reading", {"board": FIT, "lot": (0, 2)}, "lot"),
    ("readings", "one_test", LOT, "lot"),
    ("readings", "reading_holds", LOT | {"value": ((0,), ((0,),))}, "lot"),
    ("readings", "least_no", LOT, "lot"),
    ("readings", "lot_paper", LOT, "lot"),
    ("readings", "lot_paper", {"board": FIT, "lot": (0, 2)}, "lot"),
    ("readings", "lot_holds", LOT | {"value": ("no",) + NO}, "lot"),
    ("readings", "tested_lots", {"board": ODD}, ""),
    ("readings", "read_board", {"board": FIT, "lot": (0, 2)}, "lot"),
    ("readings", "knit_board", {"board": FIT, "lot": (0, 2)}, "lot"),
    ("squares", "is_square", {"value": FIVE}, "value"),
    ("squares", "named_square", {"rows": FIVE, "x": 2, "y": 3}, "rows"),
    ("squares", "square_group", {"rows": cycle_rows(4)}, "rows"),
    ("squares", "square_group", {"rows": FIVE}, "rows"),
    ("squares", "open_square", {"rows": FIVE}, "rows"),
    ("squares", "open_holds", {"rows": FIVE, "value": (0, 1, 2, 3, 4, 0, 1, 2)}, "rows"),
    ("squares", "led_square", {"rows": cycle_rows(3), "lines": (1, 0, 2), "places": (0, 1, 2), "marks": (2, 1, 0)}, "rows lines places marks"),
    ("squares", "square_match", {"one": FIVE, "other": FIVE}, "one other"),
    ("nets", "net_marks", {"net": NET, "setting": (1, 2, 3)}, "setting"),
    ("nets", "net_lots", {"net": NET}, ""),
    ("nets", "net_board", {"net": NET}, ""),
    ("nets", "lean_net", {"net": NET}, ""),
    ("nets", "put_net", {"outer": NET, "part": 1, "inner": OTHER_NET}, ""),
    ("nets", "held_net", {"net": NET, "part": 1, "content": 2}, ""),
    ("nets", "led_net", {"net": NET, "part": 1, "row": (3, 2, 0, 1)}, "row"),
    ("nets", "turned_net", {"net": NET, "order": (2, 0, 1)}, "order"),
    ("stays", "pair_counts", {"net": NET, "lot": (0, 2), "u": (0, 1), "v": (2, 3)}, "lot u v"),
    ("stays", "pair_case", {"net": NET, "lot": (0, 2), "u": (0, 1), "v": (2, 3), "a": 1, "b": 1}, "lot u v"),
    ("stays", "stay_count", {"net": NET, "lot": (0, 2), "u": (0, 1), "v": (2, 3)}, "lot u v"),
    ("stays", "unlike_count", {"one": NET, "other": OTHER_NET}, ""),
    ("stays", "unlike_case", {"one": NET, "other": OTHER_NET}, ""),
    ("renewals", "idle_renewal", LOT, "lot"),
    ("renewals", "led_setting", LOT | {"rows": RENEWAL, "setting": (0, 1, 2)}, "lot rows setting"),
    ("renewals", "broken_renewal", LOT | {"rows": RENEWAL[:1] + ((0, 1, 2, 3),)}, "lot rows"),
    ("renewals", "is_renewal", LOT | {"value": RENEWAL}, "lot"),
    ("renewals", "composed_rows", {"one": RENEWAL, "other": ((1, 2, 3, 0), (0, 1, 2, 3))}, "one other"),
    ("renewals", "undone_rows", {"rows": ((1, 2, 3, 0), (0, 1, 2, 3))}, "rows"),
    ("renewals", "forced_rows", CHANGE, "lot u v"),
    ("renewals", "led_renewal", CHANGE | {"v": (1, 1)}, "lot u v"),
    ("renewals", "barred_setting", CHANGE, "lot u v"),
    ("renewals", "barred_holds", CHANGE | {"value": (0, 0, 0)}, "lot u v"),
    ("renewals", "lot_renewals", LOT, "lot"),
    ("renewals", "renewal_lots", LOT, "lot"),
    ("renewals", "renewal_group", LOT, "lot"),
    ("sums", "numbers_hold", {"sums": SUMS, "setting": (1, 1), "value": (2, 1, 1)}, ""),
    ("sums", "readings_hold", {"sums": SUMS, "value": ((0, 1), (1, 0))}, ""),
    ("sums", "turns_hold", {"sums": SUMS, "setting": (1, 1), "value": ((0, 1), (1, 0))}, ""),
    ("sums", "clash_holds", {"sums": SUMS, "value": (3, (1, 1, 1))}, ""),
    ("trees", "common_shape", {"one": SHAPE, "other": ("line", (0, 1, 2, 3, 4))}, ""),
    ("trees", "three_nos", {"board": ODD}, ""),
    ("trees", "shape_by_nos", {"many": 3, "nos": (((0, 2), 1),)}, ""),
    ("trees", "shape_of", {"board": ODD}, ""),
    ("trees", "swung_board", {"board": ODD, "part": 1}, ""),
    ("trees", "swung_shape", {"shape": SHAPE, "part": 3}, ""),
    ("tries", "content_kinds", LOT, "lot"),
    ("tries", "counting_parts", LOT, "lot"),
    ("tries", "counting_paper", LOT | {"part": 2}, "lot"),
    ("tries", "counting_holds", LOT | {"part": 2, "value": NO}, "lot"),
    ("tries", "all_tries", LOT, "lot"),
    ("tries", "noticed_tries", LOT | {"one": (0, 0), "other": (2, 2)}, "lot one other"),
    ("tries", "unnoticed_change", LOT | {"tries": ((2,), (3,), (2,))}, "lot tries"),
    ("arrows", "arrow_no", {"board": ODD, "part": 0, "pivot": 1, "outside": 2}, ""),
    ("arrows", "arrow_rows", {"board": ODD, "pivot": 1}, ""),
    ("arrows", "reached_lot", {"rows": ((2,), (), ()), "lot": (0, 1)}, "rows lot"),
    ("enough", "greatest_passed", LOT, "lot"),
    ("enough", "least_enough", LOT, "lot"),
    ("enough", "fewest_tries", LOT, "lot"),
    ("enough", "fewer_changes", LOT, "lot"),
    ("enough", "fewer_holds", LOT | {"many": 1, "value": (((0, 0), (0, 1)),)}, "lot"),
    ("enough", "surely_enough", LOT, "lot"),
    ("facts", "closed_shape", TOLD, "lots"),
    ("facts", "fact_paper", TOLD | {"lot": (0, 1, 2)}, "lots lot"),
    ("facts", "fact_holds", TOLD | {"lot": (1,), "value": (("told", (0, 1)), ("told", (1, 2)), ("meet", 0, 1))}, "lots lot"),
    ("facts", "fewest_facts", {"shape": SHAPE}, ""),
    ("facts", "how_many_shapes", {"many": 6}, ""),
    ("facts", "shape_board", {"shape": ("line", (0, 2, 1))}, ""),
    ("folds", "folded_lots", LOT, "lot"),
    ("folds", "folded_board", LOT, "lot"),
    ("folds", "folded_contents", LOT | {"contents": (1, 3)}, "lot contents"),
    ("folds", "net_fold", {"net": NET, "lot": (0, 2)}, "lot"),
    ("forms", "form_marks", {"form": FORM, "setting": (1, 2, 3)}, "setting"),
    ("forms", "form_lots", {"form": FORM}, ""),
    ("forms", "form_shape", {"form": FORM}, ""),
    ("forms", "needed_content", {"form": FORM, "setting": (1, 2, 3), "part": 1, "mark": 2}, "setting"),
    ("forms", "board_form", {"board": FIT}, ""),
    ("forms", "form_board", {"form": FORM}, ""),
    ("gaps", "gap_mark", {"group": SIX, "stretches": (1, 2), "gaps": (3,)}, "stretches gaps"),
    ("gaps", "gap_pass", {"group": SIX, "one": (1, 2), "other": (1, 2)}, "one other"),
    ("gaps", "gap_kinds", {"group": SIX, "many": 3}, ""),
    ("gaps", "gap_unnoticed", {"group": SIX, "many": 2, "tries": ((1, 2), (0, 3))}, "tries"),
    ("gaps", "gap_blind", {"group": SIX, "gaps": (1, 2)}, "gaps"),
    ("gaps", "gap_bounds", {"group": SIX, "many": 2}, ""),
    ("gaps", "spread_tries", {"group": SIX, "many": 2}, ""),
    ("gaps", "gap_most", {"group": SIX, "many": 2}, ""),
    ("gaps", "gap_worst", {"group": SIX, "many": 2}, ""),
    ("hulls", "hull_chain", LOT, "lot"),
    ("hulls", "hull_of", LOT, "lot"),
    ("hulls", "single_hulls", {"board": TWO}, ""),
    ("hulls", "hull_paper", LOT, "lot"),
    ("hulls", "shown_hull", {"board": TWO, "lot": (2,), "value": ((), (0, 1), ((0, 0, 0, 1), (1, 1, 1, 0)))}, "lot"),
    ("hulls", "meet_above", {"parts": 4, "lots": ((0, 1, 2), (1, 2, 3)), "lot": (1,)}, "lots lot"),
    ("hulls", "key_lots", {"board": FIT}, ""),
    ("knots", "wire_names", {"board": FIT, "lot": (0, 2), "base": ONES}, "lot base"),
    ("knots", "wire_board", {"board": FIT, "lots": ((0, 2), (1,)), "base": ONES}, "lots base"),
    ("knots", "wire_square", {"board": FIT, "one": (0,), "other": (2,), "base": ONES}, "one other base"),
    ("knots", "knot_group", {"board": FIT, "lots": ((0,), (2,), (1,)), "base": ONES}, "lots base"),
    ("knots", "other_naming", {"group": SIX, "mark": 4}, ""),
    ("knots", "naming_row", {"board": FIT, "lot": (0, 2), "base": ONES, "other": (0, 1, 3)}, "lot base other"),
    ("knots", "group_board", {"group": SIX, "rows": ((0, 1, 2, 3, 5, 4), (1, 0, 2, 3, 4, 5))}, "rows"),
    ("knots", "knot_boards", {"group": SIX, "parts": 9}, ""),
    ("movers", "part_movers", {"board": ODD, "part": 1}, ""),
    ("movers", "mover_holds", {"board": FIT, "part": 1, "value": ((1, 2, 3, 0), (1, 2, 3, 0))}, ""),
    ("movers", "paired_movers", LOT, "lot"),
    ("movers", "serving_rows", {"board": FIT, "part": 1, "partners": (0, 2)}, "partners"),
    ("movers", "full_partners", {"board": FIT, "part": 1}, ""),
    ("roads", "reached_settings", {"board": FIT, "lots": ((0, 1),), "setting": ONES}, "lots setting"),
    ("roads", "renewal_road", {"board": FIT, "lots": ((0, 1), (1, 2)), "setting": ONES, "other": (0, 0, 3)}, "lots setting other"),
    ("roads", "renewal_road_holds", {"board": FIT, "lots": ((0, 1),), "setting": ONES, "other": ONES, "value": ()}, "lots setting other"),
    ("roads", "reach_lots", {"board": FIT, "lots": ((0, 1),)}, "lots"),
    ("steady", "net_broken", {"net": NET, "lot": (0, 1), "rows": RENEWAL[:1] + ((0, 1, 2, 3),)}, "lot rows"),
    ("steady", "net_renewals", {"net": NET, "lot": (0, 2)}, "lot"),
    ("steady", "net_movers", {"net": NET, "part": 1}, ""),
    ("wrong", "explained_by", {"board": ODD, "setting": ONES, "mark": 2}, "setting"),
    ("wrong", "changed_many", {"many": 4, "parts": 9}, ""),
    ("wrong", "unnoticed_many", {"many": 4, "parts": 9}, ""),
    ("wrong", "nth_unnoticed", {"board": FIT, "setting": ONES, "lot": (0, 1), "number": 1}, "lot setting"),
    ("wrong", "unnoticed_number", {"board": FIT, "setting": ONES, "wrong": (0, 2, 1)}, "setting wrong"),
    ("wrong", "full_no", LOT, "lot"),
    ("wrong", "knowing_kinds", LOT | {"mark": 1}, "lot"),
    ("blocks", "mark_blocks", {"board": TWO}, ""),
    ("blocks", "block_bits", {"board": TWO}, ""),
    ("blocks", "bits_hold", {"board": TWO, "value": (((0, 1), (2,)), 0, ((0, 0, 0, 1), (0, 1)))}, ""),
    ("blocks", "odd_square", {"board": TWO, "one": 0, "other": 1}, ""),
    ("blocks", "odd_road", {"board": TWO, "one": 0, "other": 1}, ""),
    ("rules", "ruled_lot", {"rules": (((0,), (1, 2)), ((1, 2), (3,))), "lot": (0, 4)}, "lot"),
    ("rules", "fewest_rules", {"board": TWO}, ""),
    ("rules", "least_makers", {"board": TWO, "lot": (0, 1)}, "lot"),
    ("rules", "rule_board", {"parts": 4, "lot": (0, 2), "part": 3}, "lot"),
    ("moves", "tidy_form", {"many": 4, "names": ((1, 0, 2, 3), (0, 1, 2, 3)), "rows": (((1, 0), BOTH),)}, "names"),
    ("moves", "led_form", {"form": FORM, "part": 1, "row": (3, 0, 1, 2)}, "row"),
    ("moves", "marked_form", {"form": FORM, "row": (3, 0, 1, 2)}, "row"),
    ("moves", "turned_form", {"form": FORM, "order": (2, 0, 1)}, "order"),
    ("moves", "near_form", {"form": FORM, "lot": (0, 2)}, "lot"),
    ("moves", "put_form", {"outer": FORM, "part": 1, "inner": board_form(FIT)}, ""),
    ("strong", "plain_net", {"net": NET}, ""),
    ("strong", "look_board", {"net": Net(4, 3, [(BOTH, (0, 1)), (BOTH, (3, 2))]), "wire": 3}, ""),
    ("strong", "net_strong", {"net": NET}, ""),
    ("strong", "net_form", {"net": NET}, ""),
    ("strong", "form_net", {"form": FORM}, ""),
    ("strong", "net_hull", {"net": NET, "lot": (0, 2)}, "lot"),
    ("strong", "net_tested", {"net": NET, "lot": (0, 2)}, "lot"),
    ("held", "left_parts", HELD, ""),
    ("held", "left_lots", HELD, ""),
    ("held", "gained_lots", HELD, ""),
    ("held", "gain_paper", HELD | {"lot": (1, 2)}, "lot"),
    ("held", "gain_holds", HELD | {"lot": (1, 2), "value": ((0,),) * 5}, "lot"),
    ("held", "layer_readings", {"board": ODD, "part": 0, "lot": (1, 2)}, "lot"),
    ("held", "layer_kinds", {"board": ODD, "part": 0, "lot": (1, 2)}, "lot"),
    ("held", "fewest_holds", LOT, "lot"),
    ("held", "loose_lots", LOT | {"setting": (0, 1, 2)}, "lot setting"),
    ("shown", "unparted_pair", {"many": 3, "lots": ((0,), (1, 2))}, "lots"),
    ("shown", "seen_wrong", {"board": FIT, "lots": ((0, 1), (2,)), "setting": ONES, "wrong": (1, 0, 1)}, "lots setting wrong"),
    ("shown", "suspect_parts", {"many": 4, "lots": ((1, 3), (2, 3)), "seen": (True, False)}, "lots seen"),
    ("shown", "hidden_pair", {"board": FIT, "lots": ((0, 1),), "setting": ONES}, "lots setting"),
    ("shown", "fewest_shown", {"shape": SHAPE}, ""),
    ("blame", "blame_counts", SEEN, "wrong right"),
    ("blame", "blame_fits", SEEN | {"lot": (1, 3)}, "wrong right lot"),
    ("blame", "nth_blame", SEEN | {"size": 3, "number": 1}, "wrong right"),
    ("blame", "blame_setting", {"board": FIT, "setting": ONES, "wrong": ((1,),), "right": ((0, 1, 2),), "lot": (1, 2)},
     "setting wrong right lot"),
    ("told", "untold_pairs", {"told": TOLD_FORM}, ""),
    ("told", "swapped_names", {"names": ((0, 1, 2), (0, 2, 1)), "part": 1, "one": 1, "other": 2}, "names"),
    ("told", "cross_settings", {"told": TOLD_FORM}, ""),
    ("holds", "held_form", {"form": FORM, "pairs": ((0, 2),)}, ""),
    ("holds", "left_shape", {"shape": SHAPE, "lot": (0, 1, 4)}, "lot"),
    ("holds", "gain_count", {"form": FORM, "pairs": ((0, 2),)}, ""),
    ("holds", "gaining_holds", {"form": FORM}, ""),
    ("parted", "net_no", {"net": ODD_NET, "lot": (0, 1)}, "lot"),
    ("parted", "net_no_holds", {"net": ODD_NET, "lot": (0, 1), "value": NO}, "lot"),
    ("parted", "gathered_net", {"net": NET, "lot": (0, 2)}, "lot"),
    ("parted", "gathered_holds", {"net": NET, "lot": (0, 1), "value": OTHER_NET}, "lot"),
    ("parting", "near_settings", {"many": 3, "parts": 4, "most": 2}, ""),
    ("parting", "parting_parts", {"one": FORM, "other": board_form(FIT)}, ""),
    ("parting", "parting_setting", {"one": FORM, "other": FORM}, ""),
    ("parting", "form_by_marks", {"many": 2, "parts": 2, "marks": (0, 1, 1, 0)}, "marks"),
    ("renamings", "how_many_renamings", {"one": FORM, "other": FORM}, ""),
    ("renamings", "some_renaming", {"one": FORM, "other": FORM}, ""),
    ("renamings", "is_renaming", {"one": FORM, "other": FORM, "value": ((0, 1, 2, 3),) * 2}, ""),
    ("renamings", "how_many_alike", {"form": FORM}, ""),
    ("splits", "clash_split", {"told": CLASH_FORM}, ""),
    ("splits", "sure_split", {"told": TOLD_FORM, "setting": (1, 0, 0)}, "setting"),
    ("splits", "split_holds", {"told": TOLD_FORM, "setting": (1, 0, 0), "mark": 0, "value": ("mark",)}, "setting"),
    ("splits", "clash_split_holds", {"told": CLASH_FORM, "value": ("case", 0)}, ""),
    ("checker", "sheet_holds", {"kind": "one-test", "question": (ODD, (0, 1)), "value": NO}, ""),
    ("checker", "wrong_sheets", {"sheets": (("one-test", (ODD, (0, 1)), NO), ("not one-test", (ODD, (0, 1)), NO))}, ""),
    ("settling", "contrary_kind", {"kind": "sure"}, ""),
    ("settling", "settled_sheet", {"kind": "one-test", "question": (ODD, (0, 1))}, "question"),
    ("blocks", "odd_road_holds", {"board": TWO, "one": 0, "other": 1, "value": ((0, 1, ZEROS, 1, 1),)}, ""),
]


def told(value):
    """A value that can be compared: boards and groups by their own ==."""
    return (type(value), value)


class TestBasics(unittest.TestCase):
    def each(self):
        for module, name, arguments, lists in CALLS:
            function = getattr(importlib.import_module("oncetested." + module), name)
            with self.subTest(name):
                yield function, arguments, lists.split()

    def test_by_position_and_by_names(self):
        for function, arguments, _ in self.each():
            result = function(*arguments.values())
            self.assertEqual(told(function(**arguments)), told(result))
            backwards = dict(reversed(list(arguments.items())))
            self.assertEqual(told(function(**backwards)), told(result))

    def test_lists_for_sequences(self):
        for function, arguments, lists in self.each():
            result = function(**arguments)
            listed = {name: as_lists(value) if name in lists else value for name, value in arguments.items()}
            kept = {name: copy.deepcopy(listed[name]) for name in lists}
            self.assertEqual(told(function(**listed)), told(result))
            self.assertEqual({name: listed[name] for name in lists}, kept)

    def test_tuples_come_back(self):
        for function, arguments, lists in self.each():
            listed = {name: as_lists(value) if name in lists else value for name, value in arguments.items()}
            self.assertFalse(has_lists(function(**listed)))

    def test_whether_is_true_or_false(self):
        endings = ("_holds", "_stays", "_fit", "_fits", "_tested")
        for function, arguments, _ in self.each():
            name = function.__name__
            if name.startswith("is_") or name.endswith(endings) and name not in ("fewest_holds", "gaining_holds"):
                self.assertIsInstance(function(**arguments), bool)

    def test_every_function_is_called(self):
        modules = {module for module, _, _, _ in CALLS}
        called = {(module, name) for module, name, _, _ in CALLS}
        from test_interface import FUNCTIONS
        listed = {(module, signature.partition("(")[0]) for module, signatures in FUNCTIONS.items() for signature in signatures}
        # Pairs are tuples within a list or a tuple; test_putting.py and test_wrong.py call these with both.
        paired = {("putting", "held_parts"), ("wrong", "count_fitting"), ("wrong", "nth_fitting"), ("wrong", "fitting_number")}
        self.assertEqual(listed - called, {("boards", "need_board")} | paired)
        self.assertEqual(modules | {"books", "live", "desk"}, set(FUNCTIONS))


if __name__ == "__main__":
    unittest.main()
