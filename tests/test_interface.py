"""The interface: names, parameters and their order, methods of each class in the class itself, and where all is defined."""

import importlib
import inspect
import unittest

FUNCTIONS = {
    "boards": ["all_settings(sizes)", "setting_number(sizes, setting)", "nth_setting(sizes, number)", "is_setting(sizes, value)",
               "need_board(value)", "need_lot(board, value)", "rest_of(board, lot)", "lot_contents(board, lot)",
               "joined_setting(board, lot, inside, outside)", "parted_setting(board, lot, setting)", "lot_marks(board, lot)"],
    "groups": ["element_order(group, x)", "element_orders(group)", "order_profile(group)", "is_commutative(group)",
               "made_part(group, lot)", "centralizer_of(group, lot)", "centre_of(group)", "element_classes(group)",
               "fewest_makers(group)", "parting_makers(group)", "retest_ratio(group)", "group_matches(one, other)",
               "group_match(one, other)", "turned_group(group)", "named_group(group, row)",
               "extended_group(group, turn, many, extra)"],
    "shapes": ["parts_of(shape)", "need_shape(value)", "is_shape(value)", "strong_lots(shape)", "knot_there(shape, lot)",
               "lot_place(shape, lot)", "is_inner(shape, lot)", "inner_hull(shape, lot)", "crossing_lot(shape, lot)",
               "count_lots(shape)", "nth_lot(shape, number)", "lot_number(shape, lot)"],
    "fair": ["fair_fault(board)", "is_fair(board)", "fault_holds(board, value)", "need_fair(board)"],
    "looks": ["change_stays(board, lot, u, v, w)", "stay_places(board, lot, u, v)", "no_holds(board, lot, value)",
              "differing_places(one, other)", "mixed_contents(u, v)", "near_no(board, lot, no)", "smaller_no(board, lot, no)",
              "cut_no(board, lot, no)", "is_full(board, part)", "pivot_no(board, lot, no, part)", "stubborn_board(many)"],
    "pairs": ["road_mark(pairs, road)", "case_road_holds(pairs, a, b, value)", "case_ring_holds(pairs, value)",
              "pairs_fit(pairs, value)"],
    "putting": ["led_board(board, part, row)", "marked_board(board, row, many=None)", "turned_board(board, order)",
                "held_board(board, part, content)", "held_parts(board, pairs)", "layered_board(boards, part)",
                "put_boards(outer, inners)", "put_board(outer, part, inner)", "tied_board(board, lot)", "twin_lots(board, part)",
                "merged_names(board)", "merged_board(board)"],
    "squares": ["is_square(value)", "named_square(rows, x, y)", "square_group(rows)", "open_square(rows)", "open_holds(rows, value)",
                "led_square(rows, lines, places, marks)", "square_match(one, other)"],
    "stays": ["pair_counts(net, lot, u, v)", "stay_count(net, lot, u, v)", "pair_case(net, lot, u, v, a, b)",
              "unlike_count(one, other)", "unlike_case(one, other)"],
    "sums": ["numbers_hold(sums, setting, value)", "readings_hold(sums, value)", "turns_hold(sums, setting, value)",
             "clash_holds(sums, value)"],
    "nets": ["net_marks(net, setting)", "net_lots(net)", "net_board(net)", "lean_net(net)", "put_net(outer, part, inner)",
             "held_net(net, part, content)", "led_net(net, part, row)", "turned_net(net, order)"],
    "readings": ["lot_reading(board, lot)", "one_test(board, lot)", "reading_holds(board, lot, value)", "least_no(board, lot)",
                 "lot_paper(board, lot)", "lot_holds(board, lot, value)", "tested_lots(board)", "read_board(board, lot)",
                 "knit_board(board, lot)"],
    "renewals": ["idle_renewal(board, lot)", "led_setting(board, lot, rows, setting)", "composed_rows(one, other)", "undone_rows(rows)",
                 "broken_renewal(board, lot, rows)", "is_renewal(board, lot, value)", "forced_rows(board, lot, u, v)",
                 "led_renewal(board, lot, u, v)", "barred_setting(board, lot, u, v)", "barred_holds(board, lot, u, v, value)",
                 "lot_renewals(board, lot)", "renewal_lots(board, lot)", "renewal_group(board, lot)"],
    "trades": ["exchange_lots(board, one, other)", "exchanged_board(board, one, other, settings)", "filled_marks(many, parts, marks)",
               "sum_board(many, base, rows)", "sum_paper(board)"],
    "trees": ["common_shape(one, other)", "three_nos(board)", "shape_by_nos(many, nos)", "shape_of(board)", "swung_board(board, part)",
              "swung_shape(shape, part)"],
    "tries": ["content_kinds(board, lot)", "counting_parts(board, lot)", "counting_paper(board, lot, part)",
              "counting_holds(board, lot, part, value)", "all_tries(board, lot)", "noticed_tries(board, lot, one, other)",
              "unnoticed_change(board, lot, tries)"],
    "arrows": ["arrow_no(board, part, pivot, outside)", "arrow_rows(board, pivot)", "reached_lot(rows, lot)"],
    "enough": ["greatest_passed(board, lot)", "least_enough(board, lot)", "fewest_tries(board, lot)", "fewer_changes(board, lot)",
               "fewer_holds(board, lot, many, value)", "surely_enough(board, lot)"],
    "facts": ["closed_shape(many, lots)", "fact_paper(many, lots, lot)", "fact_holds(many, lots, lot, value)", "fewest_facts(shape)",
              "how_many_shapes(many)", "shape_board(shape)"],
    "folds": ["folded_lots(board, lot)", "folded_board(board, lot)", "folded_contents(board, lot, contents)", "net_fold(net, lot)"],
    "forms": ["form_marks(form, setting)", "form_lots(form)", "form_shape(form)", "needed_content(form, setting, part, mark)",
              "board_form(board)", "form_board(form)"],
    "gaps": ["gap_mark(group, stretches, gaps)", "gap_pass(group, one, other)", "gap_kinds(group, many)",
             "gap_unnoticed(group, many, tries)", "gap_blind(group, gaps)", "gap_bounds(group, many)", "spread_tries(group, many)",
             "gap_most(group, many)", "gap_worst(group, many)"],
    "hulls": ["hull_chain(board, lot)", "hull_of(board, lot)", "single_hulls(board)", "hull_paper(board, lot)",
              "shown_hull(board, lot, value)", "meet_above(parts, lots, lot)", "key_lots(board)"],
    "knots": ["wire_names(board, lot, base)", "wire_board(board, lots, base)", "wire_square(board, one, other, base)",
              "knot_group(board, lots, base)", "other_naming(group, mark)", "naming_row(board, lot, base, other)",
              "group_board(group, rows)", "knot_boards(group, parts)"],
    "movers": ["part_movers(board, part)", "mover_holds(board, part, value)", "paired_movers(board, lot)",
               "serving_rows(board, part, partners)", "full_partners(board, part)"],
    "roads": ["reached_settings(board, lots, setting)", "renewal_road(board, lots, setting, other)",
              "renewal_road_holds(board, lots, setting, other, value)", "reach_lots(board, lots)"],
    "steady": ["net_broken(net, lot, rows)", "net_renewals(net, lot)", "net_movers(net, part)"],
    "wrong": ["explained_by(board, setting, mark)", "changed_many(many, parts)", "unnoticed_many(many, parts)",
              "nth_unnoticed(board, setting, lot, number)", "unnoticed_number(board, setting, wrong)", "full_no(board, lot)",
              "count_fitting(board, pairs, mark)", "nth_fitting(board, pairs, mark, number)", "fitting_number(board, pairs, setting)",
              "knowing_kinds(board, lot, mark)"],
    "blocks": ["mark_blocks(board)", "block_bits(board)", "bits_hold(board, value)", "odd_square(board, one, other)",
               "odd_road(board, one, other)", "odd_road_holds(board, one, other, value)"],
    "books": [],
    "held": ["left_parts(board, pairs)", "left_lots(board, pairs)", "gained_lots(board, pairs)", "gain_paper(board, pairs, lot)",
             "gain_holds(board, pairs, lot, value)", "layer_readings(board, part, lot)", "layer_kinds(board, part, lot)",
             "fewest_holds(board, lot)", "loose_lots(board, lot, setting)"],
    "live": [],
    "moves": ["tidy_form(many, names, rows)", "led_form(form, part, row)", "marked_form(form, row)", "turned_form(form, order)",
              "near_form(form, lot)", "put_form(outer, part, inner)"],
    "rules": ["ruled_lot(rules, lot)", "fewest_rules(board)", "least_makers(board, lot)", "rule_board(parts, lot, part)"],
    "shown": ["unparted_pair(many, lots)", "seen_wrong(board, lots, setting, wrong)", "suspect_parts(many, lots, seen)",
              "hidden_pair(board, lots, setting)", "fewest_shown(shape)"],
    "strong": ["plain_net(net)", "look_board(net, wire)", "net_strong(net)", "net_form(net)", "form_net(form)", "net_hull(net, lot)",
               "net_tested(net, lot)"],
    "told": ["untold_pairs(told)", "swapped_names(names, part, one, other)", "cross_settings(told)"],
    "blame": ["blame_counts(shape, wrong, right)", "blame_fits(shape, wrong, right, lot)",
              "nth_blame(shape, wrong, right, size, number)", "blame_setting(board, setting, wrong, right, lot)"],
    "desk": [],
    "holds": ["held_form(form, pairs)", "left_shape(shape, lot)", "gain_count(form, pairs)", "gaining_holds(form)"],
    "parted": ["net_no(net, lot)", "net_no_holds(net, lot, value)", "gathered_net(net, lot)", "gathered_holds(net, lot, value)"],
    "parting": ["near_settings(many, parts, most)", "parting_parts(one, other)", "parting_setting(one, other)",
                "form_by_marks(many, parts, marks)"],
    "renamings": ["how_many_renamings(one, other)", "some_renaming(one, other)", "is_renaming(one, other, value)",
                  "how_many_alike(form)"],
    "splits": ["clash_split(told)", "sure_split(told, setting)", "split_holds(told, setting, mark, value)",
               "clash_split_holds(told, value)"],
    "checker": ["sheet_holds(kind, question, value)", "wrong_sheets(sheets)"],
    "settling": ["contrary_kind(kind)", "settled_sheet(kind, question)"],
}
CLASSES = {
    ("boards", "Board"): ["__init__(self, many, sizes, marks)", "__call__(self, setting)", "text(self)", "read(text)",
                          "__eq__(self, other)", "__len__(self)"],
    ("groups", "Group"): ["__init__(self, rows)", "product(self, row)", "power(self, x, n)", "__eq__(self, other)", "__len__(self)"],
    ("pairs", "Pairs"): ["__init__(self, group, left, right, cases)", "case_road(self, a, b)", "case_ring(self)",
                         "some_readings(self)", "sure_mark(self, a, b)", "other_readings(self, a, b, mark)", "board_count(self)",
                         "fewest_places(self)"],
    ("sums", "Sums"): ["__init__(self, group, sizes, cases)", "clash_paper(self)", "sure_numbers(self, setting)",
                       "sure_mark(self, setting)", "open_turns(self, setting)", "some_readings(self)", "board_count(self)",
                       "fewest_settings(self)"],
    ("nets", "Net"): ["__init__(self, many, parts, rows)", "__call__(self, setting)", "text(self)", "read(text)",
                      "__eq__(self, other)", "__len__(self)"],
    ("forms", "Form"): ["__init__(self, many, names, knots)", "__call__(self, setting)", "text(self)", "read(text)",
                        "__eq__(self, other)", "__len__(self)"],
    ("books", "Book"): ["__init__(self, many)", "tell(self, lot, tested)", "forget(self, number)", "known(self, lot)",
                        "known_lots(self)", "told_shape(self)", "known_paper(self, lot)", "paper_shows(self, lot, value)",
                        "fitting_board(self, lot, tested)"],
    ("live", "Live"): ["__init__(self, board, shelf=())", "deed(self, text)", "undo(self)", "redo(self)", "now_shape(self)",
                       "now_form(self)", "mark_stays(self, lot, contents)"],
    ("told", "Told"): ["__init__(self, form, cases)", "names_fit(self, value)", "all_names(self)", "can_be(self, setting)",
                       "sure_mark(self, setting)"],
    ("desk", "Desk"): ["__init__(self)", "say(self, command)"],
    ("holds", "Holds"): ["__init__(self, form)", "hold(self, part, content)", "let_go(self, part)", "turn_to(self, part, content)",
                         "take_back(self)", "is_tested(self, lot)", "count_now(self)", "count_gained(self)", "gained_now(self)"],
}


class TestInterface(unittest.TestCase):
    def test_functions(self):
        for module, signatures in FUNCTIONS.items():
            there = importlib.import_module("oncetested." + module)
            for signature in signatures:
                function = getattr(there, signature.partition("(")[0])
                self.assertEqual(function.__name__ + str(inspect.signature(function)), signature)
                self.assertEqual(function.__module__, "oncetested." + module)

    def test_classes(self):
        for (module, name), signatures in CLASSES.items():
            there = getattr(importlib.import_module("oncetested." + module), name)
            self.assertEqual(there.__module__, "oncetested." + module)
            for signature in signatures:
                method = there.__dict__[signature.partition("(")[0]]
                if isinstance(method, staticmethod):
                    method = method.__func__
                self.assertEqual(method.__name__ + str(inspect.signature(method)), signature)


if __name__ == "__main__":
    unittest.main()
