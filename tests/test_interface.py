"""The interface: names, parameters and their order, methods of each class in the class itself, and where all is defined."""

import importlib
import inspect
import unittest

FUNCTIONS = {
    "boards": ["all_settings(sizes)", "setting_number(sizes, setting)", "nth_setting(sizes, number)", "is_setting(sizes, value)",
               "need_board(value)", "need_lot(board, value)", "rest_of(board, lot)", "lot_contents(board, lot)",
               "joined_setting(board, lot, inside, outside)", "parted_setting(board, lot, setting)", "lot_marks(board, lot)"],
    "groups": ["element_order(group, x)", "element_orders(group)", "order_profile(group)", "is_commutative(group)",
               "made_part(group, lot)", "centralizer_of(group, lot)", "centre_of(group)", "element_classes(group)",
               "fewest_makers(group)", "parting_makers(group)", "retest_ratio(group)", "group_matches(one, other)",
               "group_match(one, other)", "turned_group(group)", "named_group(group, row)",
               "extended_group(group, turn, many, extra)"],
    "shapes": ["parts_of(shape)", "need_shape(value)", "is_shape(value)", "strong_lots(shape)", "knot_there(shape, lot)",
               "lot_place(shape, lot)", "is_inner(shape, lot)", "inner_hull(shape, lot)", "crossing_lot(shape, lot)",
               "count_lots(shape)", "nth_lot(shape, number)", "lot_number(shape, lot)"],
    "fair": ["fair_fault(board)", "is_fair(board)", "fault_holds(board, value)", "need_fair(board)"],
    "looks": ["change_stays(board, lot, u, v, w)", "stay_places(board, lot, u, v)", "no_holds(board, lot, value)",
              "differing_places(one, other)", "mixed_contents(u, v)", "near_no(board, lot, no)", "smaller_no(board, lot, no)",
              "cut_no(board, lot, no)", "is_full(board, part)", "pivot_no(board, lot, no, part)", "stubborn_board(many)"],
    "pairs": ["road_mark(pairs, road)", "case_road_holds(pairs, a, b, value)", "case_ring_holds(pairs, value)",
              "pairs_fit(pairs, value)"],
}
CLASSES = {
    ("boards", "Board"): ["__init__(self, many, sizes, marks)", "__call__(self, setting)", "text(self)", "read(text)",
                          "__eq__(self, other)", "__len__(self)"],
    ("groups", "Group"): ["__init__(self, rows)", "product(self, row)", "power(self, x, n)", "__eq__(self, other)", "__len__(self)"],
    ("pairs", "Pairs"): ["__init__(self, group, left, right, cases)", "case_road(self, a, b)", "case_ring(self)",
                         "some_readings(self)", "sure_mark(self, a, b)", "other_readings(self, a, b, mark)", "board_count(self)",
                         "fewest_places(self)"],
}


class TestInterface(unittest.TestCase):
    def test_functions(self):
        for module, signatures in FUNCTIONS.items():
            there = importlib.import_module("oncetested." + module)
            for signature in signatures:
                function = getattr(there, signature.partition("(")[0])
                self.assertEqual(function.__name__ + str(inspect.signature(function)), signature)
                self.assertEqual(function.__module__, "oncetested." + module)

    def test_classes(self):
        for (module, name), signatures in CLASSES.items():
            there = getattr(importlib.import_module("oncetested." + module), name)
            self.assertEqual(there.__module__, "oncetested." + module)
            for signature in signatures:
                method = there.__dict__[signature.partition("(")[0]]
                if isinstance(method, staticmethod):
                    method = method.__func__
                self.assertEqual(method.__name__ + str(inspect.signature(method)), signature)


if __name__ == "__main__":
    unittest.main()
