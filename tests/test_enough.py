"""[58], [59]: lots of tries that are enough, bounds of these, and what shows that fewer are not."""

import itertools
import time
import unittest

from oncetested.boards import Board
from oncetested.enough import (fewer_changes, fewer_holds, fewest_tries, greatest_passed, least_enough, surely_enough)
from oncetested.errors import InvalidLot, InvalidSize
from oncetested.tries import all_tries, counting_parts, unnoticed_change
from shaping import kinds_of_boards, looked_lots, rows_within
from support import (any_values, as_lists, fair_board, has_lists, lots_of, odd_board, pick, random_board, rest, seeded,
                     settings_of, sums_board, told_error)


class Case:
    """A board and a lot, with its tries and what each change leaves, by all looks."""

    def __init__(self, board, lot):
        self.board, self.lot = board, lot
        parts = counting_parts(board, lot)
        others = rest(len(board), lot)
        outer = settings_of(pick(board.sizes, others))
        self.tries = settings_of(pick(board.sizes, parts))
        self.contents = settings_of(pick(board.sizes, lot))
        self.marks = []
        for row in rows_within(board, lot):
            told = {}
            for w, mark in zip(outer, row):
                told.setdefault(tuple(w[others.index(part)] for part in parts), mark)
            self.marks.append([told[t] for t in self.tries])
        self.noticed = {}
        for i, j in itertools.combinations(range(len(self.contents)), 2):
            self.noticed[self.contents[i], self.contents[j]] = {t for at, t in enumerate(self.tries) if self.marks[i][at] != self.marks[j][at]}
        self.changes = {change: seen for change, seen in self.noticed.items() if seen}

    def lots(self):
        return [lot for many in range(len(self.tries) + 1) for lot in itertools.combinations(self.tries, many)]

    def enough(self, lot):
        return all(seen & set(lot) for seen in self.changes.values())


def cases(number, count, most=6):
    rng = seeded(number)
    while count:
        if count % 3 == 0:
            many = rng.randint(2, 4)
            board = fair_board(rng, many, rng.randint(1, 3))
        else:
            board = random_board(rng)
        case = Case(board, rng.choice(lots_of(len(board))))
        if len(case.tries) <= most and len(case.contents) < 20:
            count -= 1
            yield rng, case


def wide_board(rows):
    """The board of one part with contents for rows, and another one with contents for tries."""
    return Board(8, (len(rows), len(rows[0])), [mark for row in rows for mark in row])


class TestBounds(unittest.TestCase):
    def test_by_all_lots_of_tries(self):
        sizes = set()
        for _, case in cases(1, 80):
            board, lot = case.board, case.lot
            passed = {tuple(t for t in case.tries if t not in seen) for seen in case.changes.values()}
            greatest = sorted(one for one in passed if not any(set(one) < set(other) for other in passed))
            told = greatest_passed(board, lot)
            self.assertEqual(told, tuple(greatest))
            self.assertEqual(greatest_passed(board=board, lot=list(lot)), told)
            enough = [lot for lot in case.lots() if case.enough(lot)]
            least = [one for one in enough if not any(set(other) < set(one) for other in enough)]
            self.assertEqual(least_enough(board, lot), tuple(sorted(least, key=lambda one: (len(one), one))))
            self.assertEqual(least_enough(board=board, lot=list(lot)), least_enough(board, lot))
            for tries in case.lots():
                is_enough = tries in enough
                self.assertIs(not any(set(tries) <= set(one) for one in told), is_enough)
                self.assertIs(any(set(one) <= set(tries) for one in least), is_enough)
                self.assertIs(unnoticed_change(board, lot, tries) is None, is_enough)
            self.assertFalse(has_lists((told, least_enough(board, lot))))
            sizes.add(len(least))
        self.assertGreater(len(sizes), 2)

    def test_by_hand(self):
        self.assertEqual(greatest_passed(odd_board(), (0, 1)), (((0,), (1,)), ((2,), (3,))))
        self.assertEqual(least_enough(odd_board(), (0, 1)), (((0,), (2,)), ((0,), (3,)), ((1,), (2,)), ((1,), (3,))))
        self.assertEqual(greatest_passed(sums_board(), (0, 1)), ((),))
        self.assertEqual(least_enough(sums_board(), (0, 1)), (((),),))

    def test_one_kind_alone(self):
        board = Board(2, (3, 2), (0, 1, 0, 1, 0, 1))
        self.assertEqual((greatest_passed(board, (0,)), least_enough(board, (0,)), fewest_tries(board, (0,))), ((), ((),), ()))
        self.assertEqual((fewer_changes(board, (0,)), surely_enough(board, (0,))), ((), (0, None)))
        self.assertIs(fewer_holds(board, (0,), 0, ()), True)
        self.assertIs(fewer_holds(board, (0,), 1, ()), False)
        self.assertIs(fewer_holds(board, (0,), 0, (((0,), (1,)),)), False)

    def test_more_than_16_tries(self):
        rng = seeded(2)
        rows = [[rng.randrange(3) for _ in range(17)] for _ in range(6)]
        board = wide_board(rows)
        told_error(self, InvalidSize, "tries", least_enough, board, (0,))
        self.assertIsNone(unnoticed_change(board, (0,), fewest_tries(board, (0,))))
        sixteen = wide_board([row[:16] for row in rows])
        self.assertEqual(least_enough(sixteen, (0,))[0], fewest_tries(sixteen, (0,)))


class TestFewest(unittest.TestCase):
    def test_by_all_lots_of_tries(self):
        sizes = set()
        for _, case in cases(3, 120, 8):
            board, lot = case.board, case.lot
            first = next(tries for tries in case.lots() if case.enough(tries))
            self.assertEqual(fewest_tries(board, lot), first)
            self.assertEqual(fewest_tries(board=board, lot=list(lot)), first)
            changes = fewer_changes(board, lot)
            self.assertEqual(fewer_changes(board=board, lot=list(lot)), changes)
            self.assertFalse(has_lists(changes))
            self.check_changes(case, len(first), changes)
            sizes.add(len(first))
        self.assertTrue({0, 1, 2, 3} <= sizes)

    def check_changes(self, case, many, changes):
        seen = [case.noticed[min(change), max(change)] for change in changes]
        self.assertTrue(all(seen))
        for fewer in case.lots():
            if len(fewer) < many:
                self.assertTrue(any(not one & set(fewer) for one in seen))
        self.assertIs(fewer_holds(case.board, case.lot, many, changes), True)
        self.assertIs(fewer_holds(board=case.board, lot=list(case.lot), many=many, value=changes), True)
        self.assertIs(fewer_holds(case.board, case.lot, many + 1, changes), False)

    def test_changes_that_hold(self):
        seen = set()
        for rng, case in cases(4, 100):
            pairs = list(case.noticed)
            for _ in range(8):
                chosen = [rng.choice((change, change[::-1])) for change in rng.sample(pairs, min(len(pairs), rng.randint(0, 5)))]
                noticed = [case.noticed[min(change), max(change)] for change in chosen]
                for many in range(6):
                    holds = all(noticed) and all(any(not one & set(tries) for one in noticed) for tries in case.lots() if len(tries) < many)
                    self.assertIs(fewer_holds(case.board, case.lot, many, tuple(chosen)), holds)
                    self.assertIs(fewer_holds(case.board, case.lot, many, tuple(chosen + chosen[:1])), holds)
                    seen.add((holds, many))
        self.assertTrue({(True, 0), (True, 1), (True, 2), (False, 0), (False, 1), (False, 3)} <= seen)

    def test_spoilt_changes(self):
        board, lot = odd_board(), (0, 1)
        right = fewer_changes(board, lot)
        self.assertEqual(fewest_tries(board, lot), ((0,), (2,)))
        self.assertIs(fewer_holds(board, lot, 2, right), True)
        one, other = right[0]
        for change in ((one,), (one, other, one), [one, other], (list(one), other), (one, list(other)), (one, one), (one, None), None, (), 0,
                       (one, (0, 4)), (one, (0,)), (one, (0, 0, 0)), ((False, False), (True, True)), (one, "00"), board):
            self.assertIs(fewer_holds(board, lot, 2, right + (change,)), False)
            self.assertIs(fewer_holds(board, lot, 0, (change,)), False)
        self.assertIs(fewer_holds(board, lot, 2, list(right)), False)
        self.assertIs(fewer_holds(board, lot, 2, tuple(as_lists(right))), False)
        self.assertIs(fewer_holds(board, lot, 2, right + ((other, one),)), True)
        self.assertIs(fewer_holds(board, lot, 0, right), True)
        self.assertIs(fewer_holds(board, lot, 1, right), True)
        self.assertIs(fewer_holds(board, lot, 10 ** 30, right), False)
        for value in any_values():
            self.assertIs(fewer_holds(board, lot, 1, value), False)
            self.assertIs(fewer_holds(board, lot, 0, value), type(value) is tuple and value == ())

    def test_fair_boards(self):
        for board, _ in kinds_of_boards(seeded(5)):
            if len(board.marks) > 300:
                continue
            one_test = looked_lots(board)
            for lot in lots_of(len(board)):
                if len(lot) < 4:
                    self.assertIs(len(fewest_tries(board, lot)) == 1, lot in one_test)
                    case = Case(board, lot)
                    least = min(map(len, case.changes.values()))
                    self.assertGreaterEqual(least, 2 ** len(counting_parts(board, lot)))


class TestSurelyEnough(unittest.TestCase):
    def test_by_all_changes(self):
        seen = set()
        for _, case in cases(6, 120, 12):
            told = (0, None)
            if case.changes:
                fewest = min(len(one) for one in case.changes.values())
                told = (len(case.tries) - fewest + 1, min(change for change, one in case.changes.items() if len(one) == fewest))
            self.assertEqual(surely_enough(case.board, case.lot), told)
            self.assertEqual(surely_enough(board=case.board, lot=list(case.lot)), told)
            seen.add(told[0])
            if told[0] and len(case.tries) < 7:
                number, (u, v) = told
                self.assertTrue(all(case.enough(tries) for tries in case.lots() if len(tries) == number))
                self.assertFalse(all(case.enough(tries) for tries in case.lots() if len(tries) == number - 1))
                self.assertEqual(len(case.tries) - len(case.noticed[u, v]), number - 1)
        self.assertTrue({0, 1, 2, 3} <= seen)

    def test_by_hand(self):
        self.assertEqual(surely_enough(odd_board(), (0, 1)), (3, ((0, 0), (2, 2))))
        self.assertEqual(surely_enough(sums_board(), (0, 1)), (1, ((0, 0), (0, 1))))


class TestErrors(unittest.TestCase):
    CALLS = ((greatest_passed, ()), (least_enough, ()), (fewest_tries, ()), (fewer_changes, ()), (fewer_holds, (0, None)), (surely_enough, ()))

    def test_lots_go_ahead_of_tries(self):
        wide = Board(2, (2, 65), [number % 2 for number in range(65)] + [number % 3 // 2 for number in range(65)])
        for call, further in self.CALLS:
            for lot, at in ((None, -1), ((), -1), ((2,), 0), ([1, 0], 1), ((0, 0), 1), ((True,), 0), (0, -1)):
                told_error(self, InvalidLot, at, call, wide, lot, *further)
            told_error(self, InvalidSize, "tries", call, wide, (0,), *further)


class TestLimits(unittest.TestCase):
    def check(self, board, lot):
        first = fewest_tries(board, lot)
        changes = fewer_changes(board, lot)
        self.assertIsNone(unnoticed_change(board, lot, first))
        self.assertIs(fewer_holds(board, lot, len(first), changes), True)
        self.assertIs(fewer_holds(board, lot, len(first) + 1, changes), False)
        number, change = surely_enough(board, lot)
        self.assertLessEqual(len(first), number)
        self.assertEqual(change is None, number == 0)
        for tries in greatest_passed(board, lot)[:3]:
            self.assertIsNotNone(unnoticed_change(board, lot, tries))
        if len(all_tries(board, lot)) <= 16:
            self.assertEqual(least_enough(board, lot)[0], first)
        return first

    def test_many_tries_and_kinds(self):
        started = time.time()
        rng = seeded(7)
        for kinds, tries in ((9, 64), (25, 25), (39, 16), (15, 40), (64, 9), (62, 10)):
            for marks in (2, 3, 8):
                self.check(wide_board([[rng.randrange(marks) for _ in range(tries)] for _ in range(kinds)]), (0,))
            for alone in (1, 2, 4):
                rows = [[0] * tries for _ in range(kinds)]
                for at in range(tries):
                    for number in rng.sample(range(kinds), alone):
                        rows[number][at] = 1
                self.check(wide_board(rows), (0,))
        # Each try tells one content alone, so all but one are needed.
        rows = [[int(at == number) for at in range(25)] for number in range(25)]
        self.assertEqual(self.check(wide_board(rows), (0,)), tuple((at,) for at in range(24)))
        self.assertEqual(len(self.check(wide_board([[0] * 24] + [row[1:] for row in rows[1:]]), (0,))), 24)
        self.assertLess(time.time() - started, 60)

    def test_fair_boards_of_625_settings(self):
        started = time.time()
        rng = seeded(8)
        for _ in range(3):
            board = fair_board(rng, 5, 4)
            for lot in ((0, 1), (1, 3), (0, 2), (0, 1, 2)):
                if len(all_tries(board, lot)) <= 25 and len(set(rows_within(board, lot))) <= 64:
                    self.check(board, lot)
        self.assertLess(time.time() - started, 30)


if __name__ == "__main__":
    unittest.main()
