"""[69] to [72]: parts held, lots gained, layers, fewest holds and loose lots, against boards of the parts left."""

import itertools
import time
import unittest

from oncetested.boards import Board
from oncetested.errors import InvalidHolds, InvalidLot, InvalidSetting, Refused
from oncetested.groups import Group, centre_of
from oncetested.held import (fewest_holds, gain_holds, gain_paper, gained_lots, layer_kinds, layer_readings, left_lots,
                             left_parts, loose_lots)
from oncetested.hulls import hull_of, hull_paper
from oncetested.putting import held_parts
from oncetested.readings import lot_reading
from oncetested.tries import counting_parts
from shaping import SIX, SQUARE, looked_lots, looks_one_test, tree_board
from support import any_values, as_lists, fair_board, has_lists, lots_of, odd_board, random_board, rest, seeded, settings_of, told_error


def twisted_board():
    """Four parts of four contents; the first one turns the odd squares of the next two on and off."""
    return Board(4, (4,) * 4, [x ^ y ^ z ^ d ^ int(max(x, y, z) < 2) for x, y, z, d in settings_of((4,) * 4)])


def boards(number, count=60, most=40):
    rng = seeded(number)
    for at in range(count):
        if at % 4 == 0:
            many = rng.randint(2, 4)
            yield rng, fair_board(rng, many, rng.randint(1, 4 if many < 3 else 3))
        elif at % 4 == 1:
            # While the first part is at 0 the others are sums; else any marks come.
            sizes = (rng.randint(2, 3),) + (2,) * rng.randint(2, 3)
            yield rng, Board(3, sizes, [sum(s) % 3 if s[0] == 0 else rng.randrange(3) for s in settings_of(sizes)])
        elif at % 4 == 2:
            sizes = tuple(rng.randint(1, 3) for _ in range(rng.randint(1, 4)))
            rows = [[rng.randrange(3) for _ in range(size)] for size in sizes]
            yield rng, Board(3, sizes, [sum(row[c] for row, c in zip(rows, s)) % 3 if rng.random() < 0.9 else s[0] for s in settings_of(sizes)])
        else:
            yield rng, random_board(rng, most)


def some_pairs(rng, board):
    """Pairs in any order, of some parts, not all."""
    held = rng.sample(range(len(board)), rng.randint(0, len(board) - 1))
    return tuple((part, rng.randrange(board.sizes[part])) for part in held)


def lots_left(board, pairs):
    """The one-test lots of the parts left, by their numbers in the whole board."""
    left = rest(len(board), dict(pairs))
    lots = looked_lots(held_parts(board, pairs))
    return sorted((tuple(left[at] for at in lot) for lot in lots), key=lambda lot: (len(lot), lot))


class TestLots(unittest.TestCase):
    def test_by_the_board_of_the_parts_left(self):
        gains = set()
        for rng, board in boards(1):
            one_tests = looked_lots(board)
            for _ in range(4):
                pairs = some_pairs(rng, board)
                left = rest(len(board), dict(pairs))
                lots = lots_left(board, pairs)
                self.assertEqual(left_parts(board, pairs), left)
                self.assertEqual(left_parts(board=board, pairs=list(pairs)), left)
                self.assertEqual(left_lots(board, pairs), tuple(lots))
                self.assertEqual(left_lots(board=board, pairs=list(pairs)), tuple(lots))
                kept = {tuple(part for part in lot if part in left) for lot in one_tests} - {()}
                # What a one-test lot has of the parts left is one-test there.
                self.assertTrue(kept <= set(lots))
                gained = tuple(lot for lot in lots if lot not in kept)
                self.assertEqual(gained_lots(board, pairs), gained)
                self.assertEqual(gained_lots(board=board, pairs=list(pairs)), gained)
                # The hulls of gained lots, and of these alone, have further parts that are left.
                for lot in lots:
                    further = set(hull_of(board, lot)) & set(left) - set(lot)
                    self.assertIs(lot in gained, bool(further))
                gains.add(len(gained))
        self.assertTrue({0, 1, 2} <= gains)

    def test_example(self):
        board = twisted_board()
        self.assertEqual((gained_lots(board, ((0, 2),)), gained_lots(board, ((0, 0),)), fewest_holds(board, (1, 3))),
                         (((1, 3), (2, 3)), (), ((0, 2),)))
        self.assertEqual(layer_kinds(board, 0, (1, 2)), ((0, 1), (2, 3)))

    def test_pairs_of_every_kind(self):
        board = odd_board()
        calls = [(left_parts, ()), (left_lots, ()), (gained_lots, ()), (gain_paper, ((9,),)), (gain_holds, ((9,), None))]
        wrong = [((4, 0), 0), ((0, 4), 0), ((True, 0), 0), ((0, True), 0), ([0, 0], 0), ((0,), 0), ((0, 1, 2), 0), (None, 0), ("ab", 0), ((-1, 0), 0),
                 ((0, -1), 0)]
        for call, further in calls:
            for value in any_values():
                if not isinstance(value, (list, tuple)):
                    told_error(self, InvalidHolds, -1, call, board, value, *further)
            for pair, at in wrong:
                told_error(self, InvalidHolds, at, call, board, (pair,), *further)
                told_error(self, InvalidHolds, at + 1, call, board, [(1, 2), pair], *further)
            told_error(self, InvalidHolds, 1, call, board, ((1, 2), (1, 2), (7, 7)), *further)
            told_error(self, InvalidHolds, 2, call, board, ((0, 2), (1, 2), (0, 1)), *further)
            told_error(self, InvalidHolds, 3, call, board, ((0, 2), (1, 2), (2, 1), (3, 0)), *further)
            told_error(self, Refused, -1, call, board, ((0, 2), (2, 1), (1, 0)), *further)
        told_error(self, Refused, -1, left_parts, Board(2, (2,), (0, 1)), ((0, 1),))
        self.assertEqual(left_parts(board, ()), (0, 1, 2))

    def test_lots_of_every_kind(self):
        board, pairs = twisted_board(), ((2, 1),)
        calls = [lambda lot: gain_paper(board, pairs, lot), lambda lot: gain_holds(board, pairs, lot, None),
                 lambda lot: layer_readings(board, 2, lot), lambda lot: layer_kinds(board, 2, lot)]
        for call in calls:
            for value in any_values():
                if not isinstance(value, (list, tuple)) or len(value) == 0:
                    told_error(self, InvalidLot, -1, call, value)
            for lot, at in (((4,), 0), ((0, 0), 1), ([1, 0], 1), ((True,), 0), ((0, 1, 2), 2), ((2,), 0), ((0, None), 1), ((0, 1, 3, 3), 3),
                            ((3, 2), 1), ((-1,), 0)):
                told_error(self, InvalidLot, at, call, lot)
        for lot, at in (((4,), 0), ((0, 0), 1), ([1, 0], 1), ((True,), 0), ((), -1), (None, -1), ((0, None), 1)):
            told_error(self, InvalidLot, at, fewest_holds, board, lot)
            told_error(self, InvalidLot, at, loose_lots, board, lot, None)


class TestPapers(unittest.TestCase):
    def test_papers_of_gained_lots(self):
        count = 0
        for rng, board in boards(2):
            for _ in range(3):
                pairs = some_pairs(rng, board)
                left = rest(len(board), dict(pairs))
                gained = gained_lots(board, pairs)
                for lot in lots_of(len(board)):
                    if not set(lot) <= set(left):
                        continue
                    paper = gain_paper(board, pairs, lot)
                    self.assertEqual(gain_paper(board=board, pairs=list(pairs), lot=list(lot)), paper)
                    if lot in gained:
                        count += 1
                        reading = lot_reading(held_parts(board, pairs), tuple(left.index(part) for part in lot))
                        self.assertEqual(paper, reading + hull_paper(board, lot))
                        self.assertFalse(has_lists(paper))
                        self.assertIs(gain_holds(board, pairs, lot, paper), True)
                        self.assertIs(gain_holds(board=board, pairs=list(pairs), lot=list(lot), value=paper), True)
                        self.check_spoilt(board, pairs, lot, paper)
                    else:
                        self.assertIsNone(paper)
                        whole = hull_paper(board, lot)
                        for other in (whole[1:] + whole, lot_reading(board, hull_of(board, lot)) + whole):
                            self.assertIs(gain_holds(board, pairs, lot, other), False)
        self.assertGreater(count, 20)

    def check_spoilt(self, board, pairs, lot, paper):
        spoilt = [paper[:4], paper + ((),), list(paper), as_lists(paper)]
        for at in range(5):
            for other in (None, (), list(paper[at]), paper[at] + paper[at][-1:], paper[at][:-1] if paper[at] else 0):
                if other != paper[at]:
                    spoilt.append(paper[:at] + (other,) + paper[at + 1:])
        spoilt.append((tuple(bool(x) for x in paper[0]) if max(paper[0]) else (True,) + paper[0],) + paper[1:])
        for value in spoilt:
            self.assertIs(gain_holds(board, pairs, lot, value), False, value)

    def test_any_noes_that_show_the_hull(self):
        board, pairs = twisted_board(), ((0, 2),)
        paper = gain_paper(board, pairs, (1, 3))
        u, v, _, _ = paper[2][0]
        held = []
        for w in settings_of((4, 4)):
            for x in settings_of((4, 4)):
                value = paper[:2] + (((u, v, w, x),) + paper[2][1:],) + paper[3:]
                if gain_holds(board, pairs, (1, 3), value):
                    held.append((w, x))
        # Any no does whose places differ in one part, as long as the next one is a no of the lot that has come.
        self.assertIn(paper[2][0][2:], held)
        self.assertGreater(len(held), 1)
        self.assertEqual({sum(one != other for one, other in zip(w, x)) for w, x in held}, {1})

    def test_any_values(self):
        board = twisted_board()
        for value in any_values():
            self.assertIs(gain_holds(board, ((0, 2),), (1, 3), value), False)
            self.assertIs(gain_holds(board, ((0, 2),), (1, 3), (value,) * 5), False)


class TestLayers(unittest.TestCase):
    def test_readings_at_each_content(self):
        kinds_seen = set()
        for rng, board in boards(3):
            for part in range(len(board)) if len(board) > 1 else ():
                left = rest(len(board), (part,))
                for lot in lots_of(len(board)):
                    if part in lot:
                        continue
                    places = tuple(left.index(other) for other in lot)
                    readings = []
                    for content in range(board.sizes[part]):
                        pair = lot_reading(held_parts(board, ((part, content),)), places)
                        readings.append(None if pair is None else pair[0])
                    self.assertEqual(layer_readings(board, part, lot), tuple(readings))
                    self.assertEqual(layer_readings(board=board, part=part, lot=list(lot)), tuple(readings))
                    if None in readings:
                        told_error(self, Refused, readings.index(None), layer_kinds, board, part, lot)
                        self.assertFalse(looks_one_test(board, lot))
                    else:
                        kinds = tuple(tuple(c for c, one in enumerate(readings) if one == reading) for reading in dict.fromkeys(readings))
                        self.assertEqual(layer_kinds(board, part, lot), kinds)
                        self.assertEqual(layer_kinds(board=board, part=part, lot=list(lot)), kinds)
                        # One-test at each content, and of one kind: this is to be one-test.
                        self.assertIs(looks_one_test(board, lot), len(kinds) == 1)
                        kinds_seen.add(len(kinds))
        self.assertTrue({1, 2, 3} <= kinds_seen)

    def test_inner_children_of_lines(self):
        for rows in (SIX, SQUARE):
            board = tree_board(len(rows), ("line", (0, 1, 2)), {"line": rows})
            kinds = layer_kinds(board, 1, (0, 2))
            self.assertEqual({len(contents) for contents in kinds}, {len(centre_of(Group(rows)))})
        board = tree_board(4, ("free", (0, 1, 2)), {"free": tuple(tuple(x ^ y for y in range(4)) for x in range(4))})
        self.assertEqual(layer_kinds(board, 1, (0, 2)), ((0, 1, 2, 3),))

    def test_parts_of_every_kind(self):
        board = odd_board()
        for value in any_values():
            if not (type(value) is int and 0 <= value < 3):
                for call in (layer_readings, layer_kinds):
                    told_error(self, Refused, value, call, board, value, None)
        for call in (layer_readings, layer_kinds):
            told_error(self, Refused, 0, call, Board(2, (2,), (0, 1)), 0, (0,))
            told_error(self, InvalidLot, 0, call, board, 1, (1,))


class TestHolds(unittest.TestCase):
    def test_by_trying_all(self):
        counts = set()
        for _, board in boards(4, 45):
            for lot in lots_of(len(board)):
                others = rest(len(board), lot)
                found = []
                for many in range(len(others) + 1):
                    for parts in itertools.combinations(others, many):
                        for contents in settings_of([board.sizes[part] for part in parts]):
                            pairs = tuple(zip(parts, contents))
                            if lot in lots_left(board, pairs):
                                found.append(pairs)
                    if found:
                        break
                self.assertEqual(fewest_holds(board, lot), min(found))
                self.assertEqual(fewest_holds(board=board, lot=list(lot)), min(found))
                self.assertTrue(all(part in counting_parts(board, lot) for part, _ in min(found)))
                counts.add(len(min(found)))
        self.assertTrue({0, 1, 2} <= counts)

    def test_loose_lots(self):
        shapes = set()
        for rng, board in boards(5, 45):
            for lot in lots_of(len(board)):
                others = rest(len(board), lot)
                setting = tuple(rng.randrange(size) for size in board.sizes)
                loose = []
                for parts in [()] + [parts for parts in lots_of(len(board)) if set(parts) <= set(others)]:
                    pairs = tuple((part, setting[part]) for part in others if part not in parts)
                    if lot in lots_left(board, pairs):
                        loose.append(parts)
                greatest = [one for one in loose if not any(set(one) < set(other) for other in loose)]
                told = tuple(sorted(greatest, key=lambda parts: (-len(parts), parts)))
                self.assertEqual(loose_lots(board, lot, setting), told)
                self.assertEqual(loose_lots(board=board, lot=list(lot), setting=list(setting)), told)
                shapes.add((len(told), len(told[0])))
        self.assertTrue({(1, 0), (1, 1), (1, 2)} <= shapes)
        self.assertEqual(loose_lots(twisted_board(), (1, 3), (2, 0, 2, 0)), ((0,), (2,)))

    def test_settings_of_every_kind(self):
        board = odd_board()
        for value in any_values():
            if not isinstance(value, (list, tuple)) or len(value) != 3:
                told_error(self, InvalidSetting, -1, loose_lots, board, (0,), value)
        for setting, at in (((4, 0, 0), 0), ((0, True, 9), 1), ([0, 0, None], 2), ((0, 0, -1), 2)):
            told_error(self, InvalidSetting, at, loose_lots, board, (0,), setting)
        self.assertEqual(loose_lots(board, (0, 1, 2), (0, 0, 0)), ((),))
        self.assertEqual(fewest_holds(board, (0, 1, 2)), ())


class TestLimits(unittest.TestCase):
    def test_64_settings(self):
        started = time.time()
        rng = seeded(6)
        for sizes in ((4, 4, 4), (2,) * 6, (2, 2, 4, 4), (1, 64), (8, 8), (1, 2, 1, 4, 1, 2, 1, 4)):
            for many in (2, 4, 8):
                board = Board(many, sizes, [rng.randrange(many) for _ in settings_of(sizes)])
                pairs = ((len(sizes) - 1, 1),)
                left = rest(len(sizes), (len(sizes) - 1,))
                for lot in gained_lots(board, pairs):
                    self.assertTrue(gain_holds(board, pairs, lot, gain_paper(board, pairs, lot)))
                self.assertIn(left, left_lots(board, pairs))
                if len(sizes) <= 4:
                    for lot in lots_of(len(sizes)):
                        self.assertLess(len(fewest_holds(board, lot)), len(sizes))
                        self.assertTrue(loose_lots(board, lot, (0,) * len(sizes)))
        self.assertLess(time.time() - started, 60)

    def test_512_settings(self):
        board = tree_board(8, ("line", (0, 1, 2)), {"line": SQUARE})
        self.assertEqual([len(contents) for contents in layer_kinds(board, 1, (0, 2))], [2] * 4)
        two = Board(2, (2,) * 8, [sum(s) % 2 for s in settings_of((2,) * 8)])
        self.assertEqual(layer_kinds(two, 3, (0, 1, 2, 4)), ((0, 1),))
        self.assertEqual(layer_readings(Board(2, (256, 2), [(x + y) % 2 for x in range(256) for y in range(2)]), 0, (1,)), ((0, 1),) * 256)


if __name__ == "__main__":
    unittest.main()
