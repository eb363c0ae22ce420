"""[67]: settings that renewals reach, and roads to them."""

import itertools
import time
import unittest

from oncetested.boards import Board
from oncetested.errors import InvalidLot, InvalidSetting, Refused
from oncetested.renewals import lot_renewals
from oncetested.roads import reach_lots, reached_settings, renewal_road, renewal_road_holds
from shaping import BITS, EIGHT_BITS, FOUR, SIX, tree_board
from support import (any_values, as_lists, cycle_rows, fair_board, has_lists, lots_of, odd_board, seeded, settings_of,
                     sums_board, told_error)

NOT_FAIR = Board(2, (2, 2), (0, 0, 1, 1))


def led(setting, lot, rows):
    told = dict(zip(lot, rows))
    return tuple(told[part][content] if part in told else content for part, content in enumerate(setting))


def all_steps(board, lots):
    return [(number, rows) for number, lot in enumerate(lots) for rows in lot_renewals(board, lot)]


def walk(board, lots, setting):
    """The fewest steps to each setting that is reached, and of these rows of steps the least."""
    steps = all_steps(board, lots)
    roads = {setting: ()}
    near = [setting]
    while near:
        found = {}
        for here in near:
            for number, rows in steps:
                there = led(here, lots[number], rows)
                if there not in roads:
                    road = roads[here] + ((number, rows),)
                    found[there] = min(found.get(there, road), road)
        roads.update(found)
        near = list(found)
    return roads


def cases(number, count):
    rng = seeded(number)
    boards = [odd_board(), sums_board(), tree_board(4, ("free", (0, 1, ("bare", (2, 3)))), {"free": FOUR, "bare": BITS}),
              tree_board(4, ("bare", (("bare", (0, 1)), ("bare", (2, 3)))), {"bare": BITS})]
    for at in range(count):
        if at < len(boards):
            board = boards[at]
        else:
            many = rng.randint(2, 4)
            board = fair_board(rng, many, rng.randint(1, 4 if many < 4 else 3))
        pairs = [lot for lot in lots_of(len(board)) if len(lot) < 4]
        yield rng, board, [rng.choice(pairs) for _ in range(rng.randint(0, 4))]


class TestRoads(unittest.TestCase):
    def test_by_a_walk(self):
        lengths = set()
        for rng, board, lots in cases(1, 40):
            setting = tuple(rng.randrange(board.many) for _ in range(len(board)))
            roads = walk(board, lots, setting)
            told = tuple(sorted(roads))
            self.assertEqual(reached_settings(board, lots, setting), told)
            self.assertEqual(reached_settings(board=board, lots=tuple(list(lot) for lot in lots), setting=list(setting)), told)
            for other in rng.sample(settings_of(board.sizes), min(len(board.marks), 12)) + rng.sample(sorted(roads), min(len(roads), 8)):
                road = renewal_road(board, lots, setting, other)
                self.assertEqual(road, roads.get(other))
                self.assertEqual(renewal_road(board=board, lots=as_lists(lots), setting=list(setting), other=list(other)), road)
                self.assertFalse(has_lists(road))
                if road is not None:
                    self.assertIs(renewal_road_holds(board, lots, setting, other, road), True)
                    self.assertIs(renewal_road_holds(board=board, lots=as_lists(lots), setting=list(setting), other=list(other), value=road), True)
                    lengths.add(len(road))
                else:
                    self.assertNotIn(other, told)
        self.assertTrue({0, 1, 2} <= lengths)

    def test_lots_that_are_reached(self):
        sizes = set()
        for _, board, lots in cases(2, 40):
            left, found = set(settings_of(board.sizes)), []
            while left:
                reached = tuple(sorted(walk(board, lots, min(left))))
                found.append(reached)
                left -= set(reached)
            self.assertEqual(reach_lots(board, lots), tuple(found))
            self.assertEqual(reach_lots(board=board, lots=as_lists(lots)), tuple(found))
            self.assertEqual(len({len(reached) for reached in found}), 1)
            self.assertEqual(board.many ** (len(board) - 1) % len(found[0]), 0)
            for reached in found:
                self.assertEqual(len({board(setting) for setting in reached}), 1)
            sizes.add(len(found[0]))
        self.assertGreater(len(sizes), 3)

    def test_lines_and_free_knots(self):
        for kind, table in (("line", SIX), ("free", FOUR), ("free", cycle_rows(3)), ("free", cycle_rows(2))):
            board = tree_board(len(table), (kind, (0, 1, 2)), {kind: table})
            lots = [(0, 1), (1, 2)]
            self.assertEqual(len(reach_lots(board, lots)), board.many)
            rng = seeded(3)
            for _ in range(10):
                one, other = rng.choice(settings_of(board.sizes)), rng.choice(settings_of(board.sizes))
                road = renewal_road(board, lots, one, other)
                self.assertIs(road is not None, board(one) == board(other))
                self.assertTrue(road is None or len(road) <= 2)

    def test_without_lots(self):
        board = odd_board()
        self.assertEqual(reached_settings(board, (), (1, 2, 3)), ((1, 2, 3),))
        self.assertEqual(renewal_road(board, [], (1, 2, 3), [1, 2, 3]), ())
        self.assertIsNone(renewal_road(board, [], (1, 2, 3), (0, 2, 3)))
        self.assertEqual(reach_lots(board, ()), tuple((setting,) for setting in settings_of(board.sizes)))
        self.assertIs(renewal_road_holds(board, (), (1, 2, 3), (1, 2, 3), ()), True)

    def test_the_same_lot_twice(self):
        board = sums_board()
        road = renewal_road(board, [(0, 2), (0, 1), (0, 1)], (0, 0, 0), (1, 3, 0))
        self.assertEqual(road, ((1, ((1, 2, 3, 0), (3, 0, 1, 2))),))
        self.assertEqual(renewal_road(board, [(0, 2), (0, 1)], (0, 0, 0), (0, 1, 3)), ((0, ((1, 2, 3, 0), (3, 0, 1, 2))), (1, ((3, 0, 1, 2), (1, 2, 3, 0)))))


class TestOtherRoads(unittest.TestCase):
    def test_long_roads(self):
        for rng, board, lots in cases(4, 30):
            steps = all_steps(board, lots)
            setting = tuple(rng.randrange(board.many) for _ in range(len(board)))
            for many in (0, 1, 3, 20, 60):
                road = tuple(rng.choice(steps) for _ in range(many)) if steps else ()
                here = setting
                for number, rows in road:
                    here = led(here, lots[number], rows)
                self.assertIs(renewal_road_holds(board, lots, setting, here, road), True)
                for other in rng.sample(settings_of(board.sizes), 2):
                    self.assertIs(renewal_road_holds(board, lots, setting, other, road), other == here)

    def test_spoilt_roads(self):
        board, lots = sums_board(), [(0, 1), (1, 2)]
        setting, other = (0, 0, 0), (1, 0, 3)
        road = renewal_road(board, lots, setting, other)
        self.assertEqual(len(road), 2)
        (number, rows), last = road
        idle = (0, (tuple(range(4)),) * 2)
        self.assertIs(renewal_road_holds(board, lots, setting, other, road), True)
        self.assertIs(renewal_road_holds(board, lots, setting, other, (idle,) + road + (idle,)), True)
        for value in (list(road), ([number, rows], last), ((number, list(rows)), last), ((number, as_lists(rows)), last), (last, last), road[:1], road[1:], (),
                      ((number,), last), ((number, rows, rows), last), ((2, rows), last), ((-1, rows), last), ((False, rows), last), ((None, rows), last),
                      ((number, rows[:1]), last), ((number, rows[::-1]), last), ((number, ((1, 2, 3, 0), (0, 1, 2, 3))), last), (None, last), road + (None,), None):
            self.assertIs(renewal_road_holds(board, lots, setting, other, value), False)
        for value in any_values():
            self.assertIs(renewal_road_holds(board, lots, setting, other, value), False)
            self.assertIs(renewal_road_holds(board, lots, setting, setting, value), type(value) is tuple and value == ())
            self.assertIs(renewal_road_holds(board, lots, setting, setting, (value,)), False)
        self.assertIs(renewal_road_holds(board, [(0, 2), (0, 1)], setting, other, road), False)


class TestErrors(unittest.TestCase):
    CALLS = [(reached_settings, 1), (renewal_road, 2), (renewal_road_holds, 3), (reach_lots, 0)]

    def test_in_order(self):
        for call, further in self.CALLS:
            told_error(self, Refused, ("twice", 1, (0, 0), 1), call, NOT_FAIR, [None], *[None] * further)
            told_error(self, Refused, ("size", 1), call, Board(2, (2, 3), (0,) * 6), [(9,)], *[None] * further)
            for lot, at in ((None, -1), ((), -1), ((3,), 0), ((0, 0), 1), ([2, 1], 1), ((True,), 0), ("0", -1)):
                told_error(self, InvalidLot, at, call, odd_board(), ((0, 1), lot, (9, 9)), *[None] * further)

    def test_settings(self):
        board, lots = odd_board(), [(0, 1)]
        for value, at in ((None, -1), ((0, 0), -1), ((0, 0, 4), 2), ([0, True, 9], 1), ("000", -1), ((0, 0, 0, 0), -1), ((-1, 0, 0), 0)):
            told_error(self, InvalidSetting, at, reached_settings, board, lots, value)
            told_error(self, InvalidSetting, at, renewal_road, board, lots, value, ())
            told_error(self, InvalidSetting, at, renewal_road, board, lots, [0, 0, 0], value)
            told_error(self, InvalidSetting, at, renewal_road_holds, board, lots, value, (9, 9, 9), None)
            told_error(self, InvalidSetting, at, renewal_road_holds, board, lots, (0, 0, 0), value, None)
        for value in any_values():
            if value not in ((0, 1, 2), [0, 1, 2]):
                with self.assertRaises(InvalidSetting):
                    reached_settings(board, lots, value)


class TestLimits(unittest.TestCase):
    def test_512_settings_and_4_lots(self):
        started = time.time()
        rng = seeded(5)
        eight = tree_board(8, ("free", (0, 1, 2)), {"free": EIGHT_BITS})
        four = tree_board(4, ("free", (0, 1, 2, 3)), {"free": FOUR})
        for board, lots in ((eight, [(0, 1), (1, 2), (0, 2), (0, 1, 2)]), (four, [(0, 1, 2, 3), (0, 1, 2), (1, 2, 3), (0, 3)]),
                            (fair_board(rng, 8, 3), [(0, 1), (1, 2), (0, 2), (0, 1, 2)])):
            told = reach_lots(board, lots)
            self.assertEqual(sum(map(len, told)), len(board.marks))
            one = (1,) * len(board)
            reached = reached_settings(board, lots, one)
            self.assertIn(reached, told)
            road = renewal_road(board, lots, one, reached[-1])
            steps = list(itertools.islice(all_steps(board, lots), 60))
            self.assertIs(renewal_road_holds(board, lots, one, reached[-1], road), True)
            long = tuple(steps[at % len(steps)] for at in range(60))
            end = one
            for number, rows in long:
                end = led(end, lots[number], rows)
            self.assertIs(renewal_road_holds(board, lots, one, end, long), True)
        self.assertLess(time.time() - started, 30)


if __name__ == "__main__":
    unittest.main()
