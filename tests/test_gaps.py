"""[60], [61]: rows of stretches with gaps between them."""

import itertools
import time
import unittest

from oncetested.errors import InvalidSetting, InvalidSize, InvalidTests
from oncetested.gaps import (gap_blind, gap_bounds, gap_kinds, gap_mark, gap_most, gap_pass, gap_unnoticed, gap_worst,
                             spread_tries)
from oncetested.groups import Group
from support import (all_group_rows, any_values, as_lists, cycle_rows, has_lists, mixed_group, permutation_rows,
                     quaternion_rows, seeded, told_error)

SIX = Group(permutation_rows([(1, 2, 0), (1, 0, 2)]))


def small_groups(number, most):
    rng = seeded(number)
    return [mixed_group(rng, rows) for rows in all_group_rows() if 2 <= len(rows) <= most]


def rows_of(group, many):
    return list(itertools.product(range(group.size), repeat=many))


def mark(group, stretches, gaps):
    done = stretches[0]
    for gap, stretch in zip(gaps, stretches[1:]):
        done = group.rows[group.rows[done][gap]][stretch]
    return done


def centre(group):
    return [x for x in range(group.size) if all(group.rows[x][y] == group.rows[y][x] for y in range(group.size))]


def looks(group, many):
    """For each row of stretches its marks with all rows of gaps."""
    gaps = rows_of(group, many)
    return {row: tuple(mark(group, row, each) for each in gaps) for row in rows_of(group, many + 1)}


def small_cases(number):
    """Groups and numbers of gaps with so few rows that all can be tried."""
    for group in small_groups(number, 8):
        for many in (1, 2, 3):
            if group.size ** (2 * many + 1) < 40000:
                yield group, many


class TestMarks(unittest.TestCase):
    def test_marks(self):
        rng = seeded(1)
        for group in small_groups(2, 12):
            for many in (1, 2, 3):
                for _ in range(10):
                    stretches = [rng.randrange(group.size) for _ in range(many + 1)]
                    gaps = [rng.randrange(group.size) for _ in range(many)]
                    told = mark(group, stretches, gaps)
                    self.assertEqual(gap_mark(group, stretches, gaps), told)
                    self.assertEqual(gap_mark(group=group, stretches=tuple(stretches), gaps=tuple(gaps)), told)
        self.assertEqual(gap_mark(SIX, (1, 2), (3,)), SIX.product((1, 3, 2)))

    def test_wrong_values(self):
        for value in any_values() + [(0, 6), (0,) * 4, (6,), (-1,), "0", (0, None)]:
            if not (isinstance(value, (list, tuple)) and 1 <= len(value) <= 3 and all(type(x) is int and 0 <= x < 6 for x in value)):
                told_error(self, InvalidSetting, "gaps", gap_mark, SIX, value, value)
            if not (isinstance(value, (list, tuple)) and len(value) == 3 and all(type(x) is int and 0 <= x < 6 for x in value)):
                told_error(self, InvalidSetting, "stretches", gap_mark, SIX, value, (0, 5))
        told_error(self, InvalidSetting, "stretches", gap_mark, SIX, (0,), (0,))
        told_error(self, InvalidSetting, "gaps", gap_mark, SIX, (0,), ())
        told_error(self, InvalidSetting, "gaps", gap_mark, SIX, (0,) * 5, (0,) * 4)


class TestKinds(unittest.TestCase):
    def test_rows_of_one_kind(self):
        for group, many in small_cases(3):
            shown = looks(group, many)
            rng = seeded(many)
            self.assertEqual(gap_kinds(group, many), len(set(shown.values())))
            self.assertEqual(gap_kinds(group=group, many=many), gap_kinds(group, many))
            rows = list(shown)
            alike = {}
            for row in rows:
                alike.setdefault(shown[row], []).append(row)
            for _ in range(60):
                one = rng.choice(rows)
                other = rng.choice(alike[shown[one]] if rng.random() < 0.6 else rows)
                self.check_pass(group, many, one, other, shown[one] == shown[other])

    def check_pass(self, group, many, one, other, alike):
        told = gap_pass(group, one, other)
        self.assertEqual(gap_pass(group=group, one=list(one), other=list(other)), told)
        self.assertIs(told is not None, alike)
        if told is not None:
            self.assertIsInstance(told, tuple)
            self.assertEqual(len(told), many)
            self.assertTrue(set(told) <= set(centre(group)))
            ahead = (group.unit,) + tuple(group.undone[z] for z in told)
            behind = told + (group.unit,)
            self.assertEqual(tuple(group.product((a, x, b)) for a, x, b in zip(ahead, one, behind)), other)

    def test_great_groups(self):
        for group in small_groups(4, 12):
            for many in (1, 2, 3):
                self.assertEqual(gap_kinds(group, many) * len(centre(group)) ** many, group.size ** (many + 1))
            units = (group.unit,) * 4
            self.assertEqual(gap_pass(group, units, units), units[1:])

    def test_wrong_values(self):
        for value in any_values() + [(0,), (0,) * 5, (0, 6)]:
            if not (isinstance(value, (list, tuple)) and 2 <= len(value) <= 4 and all(type(x) is int and 0 <= x < 6 for x in value)):
                told_error(self, InvalidSetting, "one", gap_pass, SIX, value, value)
            if not (isinstance(value, (list, tuple)) and len(value) == 4 and all(type(x) is int and 0 <= x < 6 for x in value)):
                told_error(self, InvalidSetting, "other", gap_pass, SIX, [0, 1, 2, 5], value)
        self.assertEqual(gap_pass(SIX, [0, 1], [0, 1]), (SIX.unit,))

    def test_numbers_of_gaps(self):
        for value in any_values() + [4, 0]:
            if not (type(value) is int and 1 <= value <= 3):
                for call, further in ((gap_kinds, ()), (gap_unnoticed, (None,)), (gap_bounds, ()), (spread_tries, ()), (gap_most, ()), (gap_worst, ())):
                    told_error(self, InvalidSize, "gaps", call, SIX, value, *further)


class TestUnnoticed(unittest.TestCase):
    def test_by_all_rows(self):
        kinds = set()
        for group, many in small_cases(5):
            rng = seeded(group.size)
            shown = looks(group, many)
            tries = rows_of(group, many)
            for count in (0, 1, 2, 3, 4, len(tries)):
                chosen = [rng.choice(tries) for _ in range(count)] if count < len(tries) else tries
                told = self.sought(shown, tries, chosen)
                self.assertEqual(gap_unnoticed(group, many, chosen), told)
                self.assertEqual(gap_unnoticed(group=group, many=many, tries=as_lists(chosen)), told)
                self.assertFalse(has_lists(told))
                kinds.add((told is None, many))
        self.assertEqual(len(kinds), 6)

    def sought(self, shown, tries, chosen):
        """The least change that stays at the chosen tries and not at all, and the least try that notices it."""
        at = [tries.index(t) for t in chosen]
        firsts = {}
        for row, marks in shown.items():
            firsts.setdefault(tuple(marks[k] for k in at), []).append(row)
        found = []
        for rows in firsts.values():
            for u, v in itertools.combinations(rows, 2):
                if shown[u] != shown[v]:
                    found.append((u, v))
                    break
        if not found:
            return None
        u, v = min(found)
        return u, v, next(t for k, t in enumerate(tries) if shown[u][k] != shown[v][k])

    def test_sizes(self):
        twelve = Group(cycle_rows(12))
        for group, many in ((twelve, 2), (twelve, 3), (Group(cycle_rows(9)), 2), (Group(cycle_rows(5)), 3), (SIX, 3)):
            told_error(self, InvalidSize, "gaps", gap_unnoticed, group, many, None)
        for group, many in ((twelve, 1), (Group(cycle_rows(8)), 2), (Group(cycle_rows(4)), 3)):
            self.assertIsNone(gap_unnoticed(group, many, [(0,) * many]))

    def test_tries(self):
        for value in any_values():
            if not isinstance(value, (list, tuple)):
                told_error(self, InvalidTests, -1, gap_unnoticed, SIX, 1, value)
        for value in any_values() + [(6,), (0, 0, 0), (0, 6), "00"]:
            if not (isinstance(value, (list, tuple)) and len(value) == 2 and all(type(x) is int and 0 <= x < 6 for x in value)):
                told_error(self, InvalidTests, 0, gap_unnoticed, SIX, 2, [value, None])
                told_error(self, InvalidTests, 2, gap_unnoticed, SIX, 2, ((0, 0), [5, 5], value))
        self.assertEqual(gap_unnoticed(SIX, 1, [[0], (0,), (0,)]), gap_unnoticed(SIX, 1, ((0,),)))

    def test_limits(self):
        started = time.time()
        rng = seeded(6)
        for group in small_groups(7, 12):
            for many in (1, 2, 3):
                if group.size ** (many + 1) <= 600:
                    tries = [tuple(rng.randrange(group.size) for _ in range(many)) for _ in range(64)]
                    told = gap_unnoticed(group, many, tries)
                    if told is not None:
                        u, v, t = told
                        self.assertTrue(all(mark(group, u, gaps) == mark(group, v, gaps) for gaps in tries))
                        self.assertNotEqual(mark(group, u, t), mark(group, v, t))
        self.assertLess(time.time() - started, 20)


class TestBounds(unittest.TestCase):
    def test_blind(self):
        kinds = set()
        rng = seeded(8)
        for group in small_groups(9, 12):
            for _ in range(20):
                gaps = [rng.randrange(group.size) for _ in range(rng.randint(1, 4))]
                steps = [group.rows[gap][group.undone[gaps[0]]] for gap in gaps]
                blind = [x for x in range(group.size) if x not in centre(group) and all(group.rows[x][y] == group.rows[y][x] for y in steps)]
                told = blind[0] if blind else None
                self.assertEqual(gap_blind(group, gaps), told)
                self.assertEqual(gap_blind(group=group, gaps=tuple(gaps)), told)
                if group.size ** 2 <= 600:
                    self.assertIs(gap_unnoticed(group, 1, [(gap,) for gap in gaps]) is None, told is None)
                kinds.add((told is None, len(centre(group)) == group.size))
        self.assertEqual(kinds, {(True, True), (True, False), (False, False)})

    def test_blind_values(self):
        for value in any_values():
            if not isinstance(value, (list, tuple)) or len(value) == 0:
                told_error(self, InvalidTests, -1, gap_blind, SIX, value)
        for value in any_values() + [6, -1]:
            if not (type(value) is int and 0 <= value < 6):
                told_error(self, InvalidTests, 0, gap_blind, SIX, (value, None))
                told_error(self, InvalidTests, 2, gap_blind, SIX, [5, 5, value])

    def test_bounds_and_spread_tries(self):
        for group in small_groups(10, 12):
            middle = centre(group)
            for count in range(4):
                parting = [lot for lot in itertools.combinations(range(group.size), count)
                           if [x for x in range(group.size) if all(group.rows[x][y] == group.rows[y][x] for y in lot)] == middle]
                if parting:
                    break
            makers = parting[0]
            for many in (1, 2, 3):
                self.assertEqual(gap_bounds(group, many), (1 + len(makers), 1 + many * len(makers)))
                self.assertEqual(gap_bounds(group=group, many=many), gap_bounds(group, many))
                units = (group.unit,) * many
                tries = [units] + [units[:at] + (x,) + units[at + 1:] for at in range(many) for x in makers]
                self.assertEqual(spread_tries(group, many), tuple(sorted(tries)))
                self.assertEqual(spread_tries(group=group, many=many), tuple(sorted(tries)))
                if group.size ** (many + 1) <= 600:
                    self.assertIsNone(gap_unnoticed(group, many, tries))

    def test_fewer_tries_never_are_enough(self):
        for group in small_groups(11, 8):
            least, most = gap_bounds(group, 1)
            for tries in itertools.combinations(rows_of(group, 1), least - 1):
                self.assertIsNotNone(gap_unnoticed(group, 1, tries))
            self.assertEqual(least, most)
        self.assertEqual(gap_bounds(SIX, 3), (3, 7))
        self.assertEqual(gap_bounds(Group(cycle_rows(5)), 3), (1, 1))

    def test_most_and_worst(self):
        for group, many in small_cases(12):
            shown = list(looks(group, many).values())
            most = 0
            for one, other in itertools.combinations(set(shown), 2):
                most = max(most, sum(a == b for a, b in zip(one, other)))
            self.assertEqual(gap_most(group, many), most)
        for group in small_groups(13, 12):
            for many in (1, 2, 3):
                most = gap_most(group=group, many=many)
                worst = gap_worst(group=group, many=many)
                self.assertIs(worst is None, most == 0)
                self.assertIs(most == 0, len(centre(group)) == group.size)
                if worst is not None:
                    u, v = worst
                    self.assertEqual((len(u), len(v), type(worst), has_lists(worst)), (many + 1, many + 1, tuple, False))
                    stays = sum(mark(group, u, gaps) == mark(group, v, gaps) for gaps in rows_of(group, many))
                    self.assertEqual(stays, most)
                    self.assertIsNone(gap_pass(group, u, v))
        self.assertEqual([gap_most(SIX, many) for many in (1, 2, 3)], [3, 18, 108])
        self.assertEqual(gap_most(Group(quaternion_rows()), 1), 4)


if __name__ == "__main__":
    unittest.main()
