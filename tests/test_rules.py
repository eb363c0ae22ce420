"""[22]: rules that one-test lots keep, least makers, boards of one rule."""

import itertools
import time
import unittest

from oncetested.blocks import block_bits, odd_square
from oncetested.boards import Board
from oncetested.errors import InvalidLot, InvalidSize, Refused
from oncetested.hulls import hull_of, hull_paper, meet_above
from oncetested.rules import fewest_rules, least_makers, rule_board, ruled_lot
from shaping import kinds_of_boards, looked_lots
from support import any_values, as_lists, fair_board, has_lists, lots_of, random_board, seeded, settings_of, told_error


def closed(rules, lot):
    """The least lot above a lot that keeps all rules, as a set."""
    have = set(lot)
    while True:
        wider = have.union(*[set(behind) for ahead, behind in rules if set(ahead) <= have])
        if wider == have:
            return have
        have = wider


def boards(number, count=80):
    rng = seeded(number)
    for at in range(count):
        if at % 4 == 3:
            many = rng.randint(2, 4)
            yield fair_board(rng, many, rng.randint(1, 4 if many < 3 else 3))
        elif at % 4 == 2:
            # Marks that hang on few contents make more one-test lots.
            sizes = tuple(rng.randint(1, 3) for _ in range(rng.randint(2, 4)))
            rows = [[rng.randrange(3) for _ in range(size)] for size in sizes]
            yield Board(3, sizes, [sum(row[c] for row, c in zip(rows, s)) % 3 if rng.random() < 0.9 else s[0] for s in settings_of(sizes)])
        elif at % 4 == 1:
            parts = rng.randint(3, 5)
            lot = rng.choice([lot for lot in lots_of(parts) if len(lot) < min(parts, 4)])
            yield rule_board(parts, lot, rng.choice([part for part in range(parts) if part not in lot]))
        else:
            yield random_board(rng)


class TestRuledLots(unittest.TestCase):
    def test_by_all_rules(self):
        rng = seeded(1)
        for _ in range(300):
            parts = rng.randint(1, 8)
            lots = lots_of(parts)
            rules = [(rng.choice(lots), rng.choice(lots)) for _ in range(rng.randint(0, 12))]
            lot = rng.choice(lots)
            told = tuple(sorted(closed(rules, lot)))
            self.assertEqual(ruled_lot(rules, lot), told)
            listed = tuple((list(ahead), list(behind)) for ahead, behind in rules)
            self.assertEqual(ruled_lot(rules=listed, lot=list(lot)), told)
            self.assertFalse(has_lists(ruled_lot(rules, list(lot))))

    def test_rules_ask_one_after_another(self):
        rules = (((2,), (3,)), ((1,), (2,)), ((0,), (1,)))
        self.assertEqual(ruled_lot(rules, (0,)), (0, 1, 2, 3))
        self.assertEqual(ruled_lot(rules, (2,)), (2, 3))
        self.assertEqual(ruled_lot((), (1, 4)), (1, 4))


class TestFewestRules(unittest.TestCase):
    def test_hulls_by_rules(self):
        counts = set()
        for board in boards(2):
            lots = lots_of(len(board))
            rules = fewest_rules(board=board)
            self.assertFalse(has_lists(rules))
            hulls = {lot: hull_of(board, lot) for lot in lots}
            for lot in lots:
                self.assertEqual(ruled_lot(rules, lot), hulls[lot])
            for at in range(len(rules)):
                fewer = rules[:at] + rules[at + 1:]
                self.assertTrue(any(ruled_lot(fewer, lot) != hulls[lot] for lot in lots))
            counts.add(len(rules))
        self.assertTrue({0, 1, 2, 3} <= counts)

    def test_the_order_in_which_they_are_found(self):
        for board in boards(3):
            one_test = set(looked_lots(board))
            rules = []
            for lot in lots_of(len(board)):
                if closed(rules, lot) == set(lot) and lot not in one_test:
                    rules.append((lot, hull_of(board, lot)))
            self.assertEqual(fewest_rules(board), tuple(rules))

    def test_no_fewer_rules_do(self):
        for board in boards(4, 60):
            lots = lots_of(len(board))
            hulls = {lot: set(hull_of(board, lot)) for lot in lots}
            rules = fewest_rules(board)
            candidates = [(lot, tuple(sorted(hulls[lot]))) for lot in lots if hulls[lot] != set(lot)]
            if rules and len(board) < 5:
                for fewer in itertools.combinations(candidates, len(rules) - 1):
                    self.assertFalse(all(closed(fewer, lot) == hulls[lot] for lot in lots))

    def test_examples(self):
        board = Board(2, (2, 2, 2), (0, 1, 0, 1, 0, 1, 1, 0))
        self.assertEqual((block_bits(board), odd_square(board, 0, 1)), ((((0, 1), (2,)), 0, ((0, 0, 0, 1), (0, 1))), ((0, 0, 0), 1, 1)))
        self.assertEqual(hull_paper(board, (0,)), ((((0,), (1,), (0, 0), (1, 0)),), (0, 0, 0, 1), ((0, 1), (1, 0))))
        self.assertEqual((fewest_rules(board), fewest_rules(rule_board(3, (0, 1), 2))),
                         ((((0,), (0, 1)), ((1,), (0, 1))), (((0, 1), (0, 1, 2)),)))


class TestLeastMakers(unittest.TestCase):
    def test_by_all_lots(self):
        counts = set()
        for board in boards(5):
            lots = lots_of(len(board))
            hulls = {lot: hull_of(board, lot) for lot in lots}
            for lot in lots:
                same = [other for other in lots if hulls[other] == hulls[lot]]
                makers = tuple(other for other in same if not any(set(less) < set(other) for less in same))
                self.assertEqual(least_makers(board, lot), makers)
                self.assertEqual(least_makers(board=board, lot=list(lot)), makers)
                counts.add(len(makers))
        self.assertTrue({1, 2, 3} <= counts)

    def test_values(self):
        board = Board(2, (2, 2, 2), (0, 1, 0, 1, 0, 1, 1, 0))
        for value in any_values():
            if not isinstance(value, (list, tuple)) or len(value) == 0:
                told_error(self, InvalidLot, -1, least_makers, board, value)
        for lot, at in (((3,), 0), ((0, 0), 1), ([2, 1], 1), ((True,), 0), ((0, None), 1)):
            told_error(self, InvalidLot, at, least_makers, board, lot)


class TestRuleBoards(unittest.TestCase):
    def test_the_lots_that_are_not_one_test(self):
        for parts in range(2, 6):
            for lot in lots_of(parts):
                for part in range(parts):
                    if len(lot) < 4 and part not in lot:
                        board = rule_board(parts, lot, part)
                        self.assertEqual(rule_board(parts=parts, lot=list(lot), part=part), board)
                        self.assertEqual((board.many, board.sizes), (2 * len(lot) + 1, (2,) * parts))
                        told = [other for other in lots_of(parts) if not (set(lot) <= set(other) and part not in other)]
                        self.assertEqual(looked_lots(board), sorted(told))

    def test_marks(self):
        for parts, lot, part in ((2, (1,), 0), (4, (0, 2), 3), (8, (1, 4, 7), 5)):
            board = rule_board(parts, lot, part)
            for setting in settings_of(board.sizes):
                ones = sum(setting[other] for other in lot)
                self.assertEqual(board(setting), len(lot) + ones if setting[part] else ones % len(lot))

    def test_nothing_but_meets_follows(self):
        rng = seeded(6)
        seen = set()
        for _ in range(150):
            parts = rng.randint(2, 5)
            told = [rng.choice(lots_of(parts)) for _ in range(rng.randint(0, 4))]
            lot = rng.choice([lot for lot in lots_of(parts) if len(lot) < 4])
            meet = meet_above(parts, told, lot)
            seen.add(meet == lot)
            for part in meet:
                if part not in lot:
                    # A board in which all told lots are one-test and the lot is not.
                    one_test = looked_lots(rule_board(parts, lot, part))
                    self.assertTrue(set(told) <= set(one_test))
                    self.assertNotIn(lot, one_test)
        self.assertEqual(seen, {True, False})
        for board in boards(7, 40):
            one_test = looked_lots(board)
            for many in (1, 2, 3):
                told = rng.sample(one_test, min(many, len(one_test)))
                for lot in lots_of(len(board)):
                    if meet_above(len(board), told, lot) == lot:
                        self.assertIn(lot, one_test)

    def test_refusals_in_order(self):
        for value in any_values() + [9, 1, 0]:
            if not (type(value) is int and 2 <= value <= 8):
                told_error(self, InvalidSize, "parts", rule_board, value, None, None)
            if not isinstance(value, (list, tuple)) or len(value) == 0:
                told_error(self, InvalidLot, -1, rule_board, 4, value, None)
            if not (type(value) is int and 0 <= value < 4):
                told_error(self, Refused, value, rule_board, 4, (0, 2), value)
                told_error(self, InvalidSize, "marks", rule_board, 5, (0, 1, 2, 4), value)
        for lot, at in (((4,), 0), ((0, 0), 1), ([2, 1], 1), ((True,), 0), ((0, 1, 2, 3, 9), 4), ((0, None), 1)):
            told_error(self, InvalidLot, at, rule_board, 4, lot, 0)
        told_error(self, InvalidSize, "marks", rule_board, 4, (0, 1, 2, 3), 9)
        for part in (0, 2, 4, -1):
            told_error(self, Refused, part, rule_board, 4, (0, 2), part)


class TestLimits(unittest.TestCase):
    def test_five_parts_and_64_settings(self):
        started = time.time()
        rng = seeded(8)
        found = [rule_board(5, (0, 2, 4), 1), Board(2, (2,) * 6, [sum(s) // 3 % 2 for s in settings_of((2,) * 6)])]
        for sizes in ((2, 2, 2, 2, 4), (4, 4, 4), (8, 8), (2, 2, 4, 4), (64,), (1, 1, 2, 2, 16)):
            found.extend(Board(many, sizes, [rng.randrange(many) for _ in settings_of(sizes)]) for many in (2, 3, 8))
        found.extend(board for board, _ in kinds_of_boards(rng) if len(board.marks) <= 64)
        for board in found:
            rules = fewest_rules(board)
            for lot in lots_of(len(board)):
                self.assertEqual(ruled_lot(as_lists(rules), lot), hull_of(board, lot))
                self.assertIn(ruled_lot(rules, lot), [ruled_lot(rules, maker) for maker in least_makers(board, lot)])
        self.assertLess(time.time() - started, 30)


if __name__ == "__main__":
    unittest.main()
