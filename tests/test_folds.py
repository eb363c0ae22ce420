"""[62]: boards and nets folded by a lot."""

import itertools
import time
import unittest

from oncetested.boards import Board
from oncetested.enough import fewest_tries
from oncetested.errors import InvalidLot, InvalidSetting, InvalidSize, Refused
from oncetested.fair import is_fair
from oncetested.folds import folded_board, folded_contents, folded_lots, net_fold
from oncetested.nets import Net, net_board, net_lots, net_marks
from oncetested.tries import all_tries, content_kinds, noticed_tries
from netting import random_net
from shaping import kinds_of_boards, looked_lots
from support import (any_values, cycle_rows, fair_board, has_lists, lots_of, odd_board, pick, rest, seeded, settings_of,
                     sums_board, told_error)


def greatest(lots, within):
    inside = [lot for lot in lots if set(lot) <= set(within)]
    return tuple(sorted(lot for lot in inside if not any(set(lot) < set(other) for other in inside)))


def boards(number):
    rng = seeded(number)
    for board, _ in kinds_of_boards(rng):
        if len(board.marks) <= 256 or len(board) <= 3:
            yield board
    for _ in range(25):
        many = rng.randint(2, 4)
        yield fair_board(rng, many, rng.randint(1, 4 if many < 4 else 3))


def numbers(board, lot):
    """The reading of a one-test lot, as a dict of its contents."""
    looks = {}
    for setting in settings_of(board.sizes):
        looks.setdefault(pick(setting, lot), []).append(board(setting))
    rows = []
    for contents in sorted(looks):
        if looks[contents] not in rows:
            rows.append(looks[contents])
    return {contents: rows.index(row) for contents, row in looks.items()}


def share(board, lot, one, other):
    """How many of all contents of the rest notice a change, of how many."""
    others = settings_of(pick(board.sizes, rest(len(board), lot)))
    noticed = 0
    for outside in others:
        told = dict(zip(rest(len(board), lot), outside))
        settings = [tuple((told | dict(zip(lot, inside)))[part] for part in range(len(board))) for inside in (one, other)]
        noticed += board(settings[0]) != board(settings[1])
    return noticed, len(others)


class TestFoldedBoards(unittest.TestCase):
    def test_lots_boards_and_contents(self):
        counts = set()
        for board in boards(1):
            one_test = looked_lots(board)
            for lot in lots_of(len(board)):
                inside, outside = greatest(one_test, lot), greatest(one_test, rest(len(board), lot))
                self.assertEqual(folded_lots(board, lot), (inside, outside))
                self.assertEqual(folded_lots(board=board, lot=list(lot)), (inside, outside))
                lots = sorted(inside + outside)
                told, within = folded_board(board, lot)
                self.assertEqual(folded_board(board=board, lot=list(lot)), (told, within))
                self.assertEqual(within, tuple(at for at, each in enumerate(lots) if each in inside))
                self.assertEqual(told.sizes, (board.many,) * len(lots))
                self.assertIs(is_fair(told), True)
                self.check_marks(board, lots, told)
                self.check_contents(board, lot, inside)
                counts.add((len(board), len(told)))
        self.assertTrue({(3, 1), (3, 2), (3, 3), (4, 3)} <= counts)

    def check_marks(self, board, lots, told):
        readings = [numbers(board, lot) for lot in lots]
        for setting in settings_of(board.sizes)[::max(1, len(board.marks) // 200)]:
            contents = tuple(reading[pick(setting, lot)] for lot, reading in zip(lots, readings))
            self.assertEqual(told(contents), board(setting))

    def check_contents(self, board, lot, inside):
        readings = [numbers(board, each) for each in inside]
        for contents in settings_of(pick(board.sizes, lot))[::max(1, board.many ** len(lot) // 12)]:
            told = dict(zip(lot, contents))
            folded = tuple(reading[tuple(told[part] for part in each)] for each, reading in zip(inside, readings))
            self.assertEqual(folded_contents(board, lot, contents), folded)
            self.assertEqual(folded_contents(board=board, lot=list(lot), contents=list(contents)), folded)

    def test_as_many_kinds_and_fewest_tries(self):
        for board in boards(2):
            for lot in lots_of(len(board)):
                told, within = folded_board(board, lot)
                if board.many ** (len(board) - len(lot)) > 64 or board.many ** len(lot) > 64:
                    continue
                self.assertEqual(max(content_kinds(told, within)), max(content_kinds(board, lot)))
                self.assertEqual(len(fewest_tries(told, within)), len(fewest_tries(board, lot)))
                contents = settings_of(pick(board.sizes, lot))
                rng = seeded(len(lot))
                for _ in range(4):
                    one, other = rng.choice(contents), rng.choice(contents)
                    before, all_before = share(board, lot, one, other)
                    after, all_after = share(told, within, folded_contents(board, lot, one), folded_contents(board, lot, other))
                    self.assertEqual(before * all_after, after * all_before)
                    seen = len(noticed_tries(board, lot, one, other))
                    self.assertEqual(seen * all_before, before * len(all_tries(board, lot)))

    def test_by_hand(self):
        self.assertEqual(folded_lots(odd_board(), (0, 1)), (((0,), (1,)), ((2,),)))
        self.assertEqual(folded_lots(sums_board(), (0, 2)), (((0, 2),), ((1,),)))
        self.assertEqual(folded_lots(sums_board(), (0, 1, 2)), (((0, 1, 2),), ()))
        board, lot = folded_board(sums_board(), (0, 2))
        self.assertEqual((board.marks, lot), (tuple((x + y) % 4 for x, y in settings_of((4, 4))), (0,)))
        self.assertEqual(folded_board(sums_board(), (0, 1, 2)), (Board(4, (4,), (0, 1, 2, 3)), (0,)))
        self.assertEqual(folded_contents(sums_board(), (0, 2), (3, 2)), (1,))

    def test_errors(self):
        spoilt = Board(2, (2, 2), (0, 0, 1, 1))
        calls = ((folded_lots, ()), (folded_board, ()), (folded_contents, (None,)))
        for call, further in calls:
            for value in any_values():
                if not isinstance(value, (list, tuple)) or len(value) == 0:
                    told_error(self, InvalidLot, -1, call, spoilt, value, *further)
            for lot, at in (((2,), 0), ((0, 0), 1), ([1, 0], 1), ((True,), 0)):
                told_error(self, InvalidLot, at, call, spoilt, lot, *further)
            told_error(self, Refused, ("twice", 1, (0, 0), 1), call, spoilt, (0,), *further)
            told_error(self, Refused, ("size", 1), call, Board(2, (2, 3), (0,) * 6), [1], *further)
        for value in any_values() + [(0, 4), (0,), [0, True], (0, 0, 0), "00"]:
            if not (isinstance(value, (list, tuple)) and len(value) == 2 and all(type(x) is int and 0 <= x < 4 for x in value)):
                told_error(self, InvalidSetting, "contents", folded_contents, odd_board(), (0, 1), value)

    def test_limits(self):
        started = time.time()
        rng = seeded(3)
        for many, parts in ((3, 5), (2, 5), (4, 4)):
            board = fair_board(rng, many, parts)
            for lot in lots_of(parts):
                told, within = folded_board(board, lot)
                self.assertEqual(len(folded_contents(board, lot, (1,) * len(lot))), len(within))
                self.assertLessEqual(len(told), parts)
        self.assertLess(time.time() - started, 20)


class TestNetFolds(unittest.TestCase):
    def kept(self, net, lot):
        """The wires on one side of the lot that no other such wire reads."""
        lots = net_lots(net)
        sided = [wire for wire, parts in enumerate(lots) if set(parts) <= set(lot) or not set(parts) & set(lot)]
        read = {below for at, (_, wires) in enumerate(net.rows) if net.parts + at in sided for below in wires}
        return sorted((wire for wire in sided if wire not in read), key=lambda wire: lots[wire])

    def test_against_the_net(self):
        rng = seeded(4)
        counts = set()
        for _ in range(60):
            many = rng.randint(2, 4)
            net = random_net(rng, many, rng.randint(1, 6 if many < 3 else 4))
            for lot in rng.sample(lots_of(len(net)), min(6, 2 ** len(net) - 1)):
                kept = self.kept(net, lot)
                board, within = net_fold(net, lot)
                self.assertEqual(net_fold(net=net, lot=list(lot)), (board, within))
                self.assertEqual((board.many, board.sizes), (many, (many,) * len(kept)))
                self.assertEqual(within, tuple(at for at, wire in enumerate(kept) if net_lots(net)[wire][0] in lot))
                for setting in settings_of(net.sizes)[::max(1, many ** len(net) // 100)]:
                    marks = net_marks(net, setting)
                    self.assertEqual(board(tuple(marks[wire] for wire in kept)), marks[-1])
                counts.add((len(kept), len(within)))
        self.assertTrue({(1, 1), (2, 1), (3, 2), (4, 2)} <= counts)

    def test_as_many_kinds_and_fewest_tries(self):
        rng = seeded(5)
        for _ in range(40):
            many = rng.randint(2, 4)
            net = random_net(rng, many, rng.randint(2, 4 if many < 4 else 3))
            board = net_board(net)
            for lot in lots_of(len(net)):
                told, within = net_fold(net, lot)
                self.assertEqual(max(content_kinds(told, within)), max(content_kinds(board, lot)))
                self.assertEqual(len(fewest_tries(told, within)), len(fewest_tries(board, lot)))

    def test_lots_and_sizes(self):
        xor = (0, 1, 1, 0)
        net = Net(2, 3, [(xor, (0, 1)), ((1, 0), (3,)), (xor, (4, 2))])
        for value in any_values():
            if not isinstance(value, (list, tuple)) or len(value) == 0:
                told_error(self, InvalidLot, -1, net_fold, net, value)
        for lot, at in (((3,), 0), ((0, 0), 1), ([2, 1], 1), ((True,), 0)):
            told_error(self, InvalidLot, at, net_fold, net, lot)
        self.assertEqual(net_fold(net, (0, 1)), (Board(2, (2, 2), xor), (0,)))
        self.assertEqual(net_fold(net, (2,)), (Board(2, (2, 2), xor), (1,)))
        self.assertEqual(net_fold(net, (0, 1, 2)), (Board(2, (2,), (0, 1)), (0,)))
        self.assertEqual(net_fold(net, (0, 2)), (Board(2, (2, 2, 2), (1, 0, 0, 1, 0, 1, 1, 0)), (0, 2)))
        self.assertEqual(net_fold(Net(3, 1, ()), (0,)), (Board(3, (3,), (0, 1, 2)), (0,)))
        self.assertEqual(net_fold(Net(3, 1, [((1, 2, 0), (0,))]), (0,)), (Board(3, (3,), (0, 1, 2)), (0,)))

    def test_great_nets(self):
        def chain(many, parts):
            rows = tuple(mark for row in cycle_rows(many) for mark in row)
            made = [(rows, (0, 1))]
            for part in range(2, parts):
                made.append((rows, (parts + part - 2, part)))
            return Net(many, parts, made)
        # In turns each part stands alone but the first one.
        told_error(self, InvalidSize, "settings", net_fold, chain(2, 9), tuple(range(0, 9, 2)))
        board, lot = net_fold(chain(2, 8), tuple(range(0, 8, 2)))
        self.assertEqual((len(board), lot), (8, (0, 2, 4, 6)))
        told_error(self, InvalidSize, "settings", net_fold, chain(8, 5), (0, 2, 4))
        self.assertEqual(len(net_fold(chain(8, 4), (0, 2))[0]), 4)
        for lot in ((0, 1, 2, 3, 4, 5), (6, 7, 8), (11,), tuple(range(12))):
            board, within = net_fold(chain(4, 12), lot)
            self.assertLessEqual(len(board), 7)
        started = time.time()
        board, within = net_fold(chain(4, 12), (0, 1, 2, 3, 4, 5))
        self.assertEqual((len(board), within), (7, (0,)))
        self.assertLess(time.time() - started, 10)
        wide = random_net(seeded(6), 3, 12)
        for many in (1, 6, 11):
            for lot in itertools.islice(itertools.combinations(range(12), many), 5):
                try:
                    self.assertFalse(has_lists(net_fold(wide, lot)[1]))
                except InvalidSize as wrong:
                    self.assertEqual(wrong.word, "settings")


if __name__ == "__main__":
    unittest.main()
