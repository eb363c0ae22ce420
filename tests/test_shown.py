"""[80]: shown readings, the parts that they part, suspected parts, hidden pairs, fewest shown lots."""

import itertools
import time
import unittest

from oncetested.boards import Board
from oncetested.errors import Refused
from oncetested.readings import lot_reading
from oncetested.shown import fewest_shown, hidden_pair, seen_wrong, suspect_parts, unparted_pair
from oncetested.wrong import nth_unnoticed
from shaping import all_shapes, inner_lots, kinds_of_boards, leaves, looked_lots, random_shape
from support import fair_board, has_lists, lots_of, pick, rest, seeded, settings_of, sums_board, told_error

NOT_FAIR = Board(2, (2, 2), (0, 0, 1, 1))


def boards(number, count=30):
    rng = seeded(number)
    for board, _ in kinds_of_boards(rng):
        if len(board.marks) <= 256:
            yield rng, board
    for _ in range(count):
        many = rng.randint(2, 4)
        yield rng, fair_board(rng, many, rng.randint(1, 4 if many < 4 else 3))


def unparted(many, lots):
    pairs = itertools.combinations(range(many), 2)
    return [pair for pair in pairs if all((pair[0] in lot) == (pair[1] in lot) for lot in lots)]


def some_lots(rng, board):
    found = looked_lots(board)
    return rng.sample(found, rng.randint(0, min(4, len(found))))


class TestParted(unittest.TestCase):
    def test_unparted_pairs(self):
        rng = seeded(1)
        seen = set()
        for _ in range(300):
            many = rng.randint(1, 7)
            lots = [rng.choice(lots_of(many)) for _ in range(rng.randint(0, 4))]
            pairs = unparted(many, lots)
            told = pairs[0] if pairs else None
            self.assertEqual(unparted_pair(many, lots), told)
            self.assertEqual(unparted_pair(many=many, lots=tuple(list(lot) for lot in lots)), told)
            seen.add(told)
        self.assertIn(None, seen)
        self.assertGreater(len(seen), 8)
        self.assertEqual((unparted_pair(2, ()), unparted_pair(1, ()), unparted_pair(3, [(0, 1, 2), (2,)])), ((0, 1), None, (0, 1)))

    def test_suspected(self):
        rng = seeded(2)
        for _ in range(300):
            many = rng.randint(1, 7)
            lots = [rng.choice(lots_of(many)) for _ in range(rng.randint(0, 4))]
            seen = [rng.random() < 0.5 for _ in lots]
            told = tuple(part for part in range(many) if [part in lot for lot in lots] == seen)
            self.assertEqual(suspect_parts(many, lots, seen), told)
            self.assertEqual(suspect_parts(many=many, lots=tuple(list(lot) for lot in lots), seen=tuple(seen)), told)
        self.assertEqual(suspect_parts(4, ((1, 3), (2, 3)), (True, False)), (1,))
        self.assertEqual(suspect_parts(3, (), ()), (0, 1, 2))


class TestSeen(unittest.TestCase):
    def test_readings_at_wrong_settings(self):
        for rng, board in boards(3):
            lots = some_lots(rng, board)
            for _ in range(10):
                setting, wrong = rng.choice(settings_of(board.sizes)), rng.choice(settings_of(board.sizes))
                told = []
                for lot in lots:
                    reading = lot_reading(board, lot)[0]
                    contents = settings_of([board.many] * len(lot))
                    told.append(reading[contents.index(pick(setting, lot))] != reading[contents.index(pick(wrong, lot))])
                self.assertEqual(seen_wrong(board, lots, setting, wrong), tuple(told))
                listed = tuple(list(lot) for lot in lots)
                self.assertEqual(seen_wrong(board=board, lots=listed, setting=list(setting), wrong=list(wrong)), tuple(told))

    def test_single_wrong_parts_and_pairs(self):
        parted_seen = set()
        for rng, board in boards(4):
            lots, many = some_lots(rng, board), len(board)
            pairs = unparted(many, lots)
            setting = rng.choice(settings_of(board.sizes))
            found, noticed = True, True
            for wrong in settings_of(board.sizes):
                unlike = [part for part in range(many) if wrong[part] != setting[part]]
                seen = seen_wrong(board, lots, setting, wrong)
                if len(unlike) == 1:
                    suspects = suspect_parts(many, lots, seen)
                    self.assertIn(unlike[0], suspects)
                    found = found and len(suspects) == 1
                if len(unlike) == 2 and board(wrong) == board(setting) and not any(seen):
                    noticed = False
            # Single wrong parts are found, and two are noticed, exactly if all parts are parted.
            self.assertEqual((found, noticed), (not pairs, not pairs))
            parted_seen.add(bool(pairs))
            hidden = hidden_pair(board, lots, setting)
            self.assertEqual(hidden_pair(board=board, lots=tuple(list(lot) for lot in lots), setting=list(setting)), hidden)
            if not pairs:
                self.assertIsNone(hidden)
            else:
                self.assertEqual(hidden, nth_unnoticed(board, setting, pairs[0], 0))
                self.assertEqual(board(hidden), board(setting))
                self.assertEqual(pick(hidden, rest(many, pairs[0])), pick(setting, rest(many, pairs[0])))
                self.assertFalse(any(seen_wrong(board, lots, setting, hidden)))
                self.assertIsInstance(hidden, tuple)
        self.assertEqual(parted_seen, {True, False})

    def test_boards_that_are_not_fair(self):
        fault = ("twice", 1, (0, 0), 1)
        told_error(self, Refused, fault, seen_wrong, NOT_FAIR, [(0,)], (0, 0), (1, 1))
        told_error(self, Refused, fault, hidden_pair, NOT_FAIR, [(0,)], (0, 0))
        self.assertIsNone(hidden_pair(sums_board(), [(0,), (1, 0)[:1], (2,)], (0, 0, 0)))
        self.assertEqual(hidden_pair(sums_board(), [], (0, 1, 2)), (1, 0, 2))


class TestFewestShown(unittest.TestCase):
    def check(self, shape, many):
        told = fewest_shown(shape=shape)
        inner = inner_lots(shape)
        self.assertFalse(has_lists(told))
        self.assertEqual(list(told), sorted(set(told)))
        self.assertTrue(set(told) <= set(inner))
        self.assertEqual(unparted(len(leaves(shape)), told), [])
        self.assertEqual(len(told), many)

    def fewest(self, shape):
        inner, parts = inner_lots(shape), len(leaves(shape))
        for many in range(parts + 1):
            for lots in itertools.combinations(inner, many):
                if len({tuple(part in lot for lot in lots) for part in range(parts)}) == parts:
                    return many

    def test_all_small_shapes(self):
        counts = set()
        for parts in range(1, 5):
            for shape in all_shapes(range(parts)):
                many = self.fewest(shape)
                self.check(shape, many)
                counts.add(many)
        rng = seeded(5)
        for _ in range(150):
            shape = random_shape(rng, list(range(rng.randint(5, 6))))
            many = self.fewest(shape)
            self.check(shape, many)
            counts.add(many)
        self.assertTrue({0, 1, 2, 3, 4} <= counts)

    def test_single_knots(self):
        for parts in range(3, 17):
            leaf_numbers = tuple(range(parts))
            self.check(("free", leaf_numbers), (parts - 1).bit_length())
            self.check(("line", leaf_numbers), (parts + 1) // 2)
            self.check(("bare", leaf_numbers), parts - 1)
        self.check(0, 0)
        self.check(("bare", (0, 1)), 1)

    def test_children_that_have_all_parts_in_some_lot(self):
        # Two lots part a free knot of three, and each part is in one of them.
        def triple(first):
            return "free", (first, first + 1, first + 2)
        self.assertEqual(self.fewest(("line", (triple(0), triple(3), 6))), 4)
        for kind in ("bare", "line", "free"):
            self.check((kind, (triple(0), triple(3), 6)), 4)
            self.check((kind, (triple(0), triple(3), triple(6))), 6)
            self.check((kind, (triple(0), 3, 4)), 3)

    def test_16_parts(self):
        started = time.time()
        rng = seeded(6)
        for _ in range(40):
            shape = random_shape(rng, list(range(16)))
            told = fewest_shown(shape)
            self.assertTrue(set(told) <= set(inner_lots(shape)))
            self.assertEqual(unparted(16, told), [])
            for at in range(len(told)):
                self.assertNotEqual(unparted(16, told[:at] + told[at + 1:]), [])
        self.assertLess(time.time() - started, 20)

    def test_520_settings(self):
        board = Board(8, (8, 8, 8), [x ^ y ^ z for x, y, z in settings_of((8, 8, 8))])
        lots = fewest_shown(("free", (0, 1, 2)))
        self.assertIsNone(hidden_pair(board, lots, (1, 2, 3)))
        self.assertEqual(hidden_pair(board, [(2,)], (1, 2, 3)), (0, 3, 3))
        self.assertEqual(seen_wrong(board, [(0, 1), (1, 2), (2,)], (1, 2, 3), (0, 3, 4)), (False, True, True))


if __name__ == "__main__":
    unittest.main()
