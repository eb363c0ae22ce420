"""[82], [83]: told cases of two lots side by side."""

import itertools
import unittest

from oncetested.boards import Board
from oncetested.errors import InvalidCases, InvalidSetting, InvalidSize, InvalidTable, Refused
from oncetested.groups import Group
from oncetested.pairs import Pairs, case_ring_holds, case_road_holds, pairs_fit, road_mark
from support import any_values, as_lists, cycle_rows, has_lists, paired_rows, permutation_rows, quaternion_rows, seeded, told_error

TWO = Group(cycle_rows(2))
THREE = Group(permutation_rows([(1, 2, 0), (1, 0, 2)]))
GROUPS = [TWO, Group(cycle_rows(3)), THREE, Group(quaternion_rows()), Group(paired_rows(cycle_rows(2), cycle_rows(2)))]


def random_pairs(rng, group, left, right, count, fitting):
    """Cases that come of readings, or any ones."""
    lefts = [rng.randrange(group.size) for _ in range(left)]
    rights = [rng.randrange(group.size) for _ in range(right)]
    cases = []
    for _ in range(count):
        a, b = rng.randrange(left), rng.randrange(right)
        cases.append((a, b, group.rows[lefts[a]][rights[b]] if fitting else rng.randrange(group.size)))
    return Pairs(group, left, right, cases)


def all_readings(pairs):
    """All readings that fit."""
    found = []
    for row in itertools.product(range(pairs.group.size), repeat=pairs.left + pairs.right):
        lefts, rights = row[:pairs.left], row[pairs.left:]
        if all(pairs.group.rows[lefts[a]][rights[b]] == mark for a, b, mark in pairs.cases):
            found.append((lefts, rights))
    return found


def joined_lots(pairs):
    """The contents of both sides, as pairs (side, content), in joined lots."""
    lots = [{(0, a)} for a in range(pairs.left)] + [{(1, b)} for b in range(pairs.right)]
    for a, b, _ in pairs.cases:
        met = [lot for lot in lots if (0, a) in lot or (1, b) in lot]
        lots = [lot for lot in lots if lot not in met] + [set().union(*met)]
    return lots


class TestPairs(unittest.TestCase):
    def test_attributes(self):
        cases = [(0, 1, 1), (1, 0, 0)]
        pairs = Pairs(TWO, 2, 3, cases)
        cases.append(0)
        self.assertIs(pairs.group, TWO)
        self.assertEqual((pairs.left, pairs.right, pairs.cases), (2, 3, ((0, 1, 1), (1, 0, 0))))
        self.assertIsInstance(pairs.cases, tuple)
        self.assertEqual(Pairs(cases=(), right=60, left=60, group=TWO).cases, ())
        with self.assertRaises(TypeError):
            len(pairs)
        with self.assertRaises(TypeError):
            iter(pairs)

    def test_refusals_in_order(self):
        for value in any_values() + [Group([[0]]), TWO.rows]:
            if not (isinstance(value, Group) and value.size > 1):
                told_error(self, InvalidTable, -1, Pairs, value, None, None, None)
            if not (type(value) is int and 1 <= value <= 60):
                told_error(self, InvalidSize, "left", Pairs, TWO, value, value, None)
                told_error(self, InvalidSize, "right", Pairs, TWO, 60, value, None)
            if not isinstance(value, (list, tuple)):
                told_error(self, InvalidCases, -1, Pairs, TWO, 1, 1, value)
            if value != (0, 0, 0):
                told_error(self, InvalidCases, 1, Pairs, TWO, 1, 1, [(0, 0, 1), value, 0])
        for size in (0, 61, -1, True):
            told_error(self, InvalidSize, "left", Pairs, TWO, size, 2, ())
            told_error(self, InvalidSize, "right", Pairs, TWO, 2, size, ())
        for case in ([0, 0, 0], (0, 0), (2, 0, 0), (0, 3, 0), (0, 0, 2), (0, 0, True), (False, 0, 0), (0, 0, 0, 0), (-1, 0, 0)):
            told_error(self, InvalidCases, 0, Pairs, TWO, 2, 3, (case,))
            told_error(self, InvalidCases, 2, Pairs, TWO, 2, 3, ((0, 0, 1), (1, 2, 0), case, None))


class TestRoads(unittest.TestCase):
    def setUp(self):
        self.pairs = Pairs(THREE, 3, 3, ((0, 0, 1), (1, 0, 2), (1, 1, 3), (2, 1, 4), (0, 1, 5), (0, 0, 2)))

    def test_marks(self):
        rows, undone = THREE.rows, THREE.undone
        self.assertEqual(road_mark(self.pairs, (0,)), 1)
        self.assertEqual(road_mark(self.pairs, (0, 1)), rows[1][undone[2]])
        self.assertEqual(road_mark(pairs=self.pairs, road=(0, 1, 2)), rows[rows[1][undone[2]]][3])
        self.assertEqual(road_mark(self.pairs, (0, 1, 2, 4)), rows[rows[rows[1][undone[2]]][3]][undone[5]])

    def test_roads_hold(self):
        for a, b, road in ((0, 0, (0,)), (0, 0, (5,)), (0, 1, (4,)), (0, 1, (0, 1, 2)), (2, 0, (3, 2, 1)), (0, 0, (0, 0, 0)),
                           (0, 0, (0, 5, 0)), (2, 0, (3, 4, 5)), (0, 0, (0, 1, 2, 4, 5))):
            self.assertIs(case_road_holds(self.pairs, a, b, road), True)
            self.assertIs(case_road_holds(pairs=self.pairs, a=a, b=b, value=list(road)), False)
            self.assertIs(case_road_holds(self.pairs, (a + 1) % 3, b, road), False)
            self.assertIs(case_road_holds(self.pairs, a, (b + 1) % 3, road), False)
            self.assertIs(case_road_holds(self.pairs, a, b, road + (0,)), False)
        for a, b, road in ((0, 0, ()), (0, 0, (0, 5)), (0, 1, (0, 2, 1)), (0, 0, (6,)), (0, 0, (-1,)), (0, 0, (False,)),
                           (False, 0, (0,)), (0, 0, ("0",)), (3, 0, (0,)), (0, -1, (0,)), (0, 1, (1, 0, 4)), (0, 0, 0),
                           (2, 0, (3, 4, 1)), (0, 1, (0, 4, 4))):
            self.assertIs(case_road_holds(self.pairs, a, b, road), False)

    def test_rings_hold(self):
        for ring in ((0, 5), (5, 0), (0, 1, 2, 4), (1, 0, 4, 2), (0, 5, 0, 5), (0, 0, 0, 5)):
            unit = road_mark(self.pairs, ring) == THREE.unit
            self.assertIs(case_ring_holds(self.pairs, ring), not unit)
            self.assertIs(case_ring_holds(pairs=self.pairs, value=list(ring)), False)
        self.assertIs(case_ring_holds(self.pairs, (0, 5)), True)
        for ring in ((), (0,), (0, 0), (0, 1), (0, 5, 0), (0, 4), (0, 6), (0, True), (0, -1), 0, (0, 2, 1, 4), ("0", 5)):
            self.assertIs(case_ring_holds(self.pairs, ring), False)

    def test_any_values(self):
        for value in any_values():
            self.assertIs(case_ring_holds(self.pairs, value), False)
            self.assertIs(case_road_holds(self.pairs, value, value, value), False)
            self.assertIs(pairs_fit(self.pairs, value), False)
            if not (type(value) is int and value == 0):
                self.assertIs(case_road_holds(self.pairs, value, 0, (0,)), False)
                self.assertIs(case_road_holds(self.pairs, 0, value, (0,)), False)
            if value != (0,):
                self.assertIs(case_road_holds(self.pairs, 0, 0, value), False)

    def test_spoilt_roads(self):
        rng = seeded(1)
        for _ in range(40):
            pairs = random_pairs(rng, rng.choice(GROUPS), 3, 3, 6, rng.random() < 0.5)
            for many in range(4):
                for road in itertools.product(range(6), repeat=many):
                    told = bool(road) and all(pairs.cases[one][(at + 1) % 2] == pairs.cases[other][(at + 1) % 2]
                                              for at, (one, other) in enumerate(zip(road, road[1:])))
                    ends = (pairs.cases[road[0]][0], pairs.cases[road[-1]][1]) if road else (0, 0)
                    self.assertIs(case_road_holds(pairs, ends[0], ends[1], road), told and many % 2 == 1)
                    back = told and many % 2 == 0 and pairs.cases[road[0]][0] == pairs.cases[road[-1]][0]
                    self.assertIs(case_ring_holds(pairs, road), back and road_mark(pairs, road) != pairs.group.unit)


class TestReadings(unittest.TestCase):
    def test_what_fits(self):
        pairs = Pairs(THREE, 2, 2, ((0, 0, 1), (1, 0, 2), (1, 1, 3)))
        readings = pairs.some_readings()
        self.assertIs(pairs_fit(pairs, readings), True)
        self.assertIs(pairs_fit(pairs=pairs, value=as_lists(readings)), False)
        lefts, rights = readings
        for value in ((rights, lefts), (lefts, rights, ()), (lefts,), (lefts + (0,), rights), (lefts, rights[:1]), (list(lefts), rights),
                      (lefts, (6,) + rights[1:]), ((False,) + lefts[1:], rights), None, ()):
            self.assertIs(pairs_fit(pairs, value), False)
        fitting = all_readings(pairs)
        for row in itertools.product(range(6), repeat=4):
            self.assertIs(pairs_fit(pairs, (row[:2], row[2:])), (row[:2], row[2:]) in fitting)

    def test_small_pairs_by_all_readings(self):
        rng = seeded(2)
        kinds = {}
        for _ in range(120):
            group = rng.choice(GROUPS[:3])
            left, right = (2, 2) if group.size > 3 else (rng.randint(1, 3), rng.randint(1, 3))
            pairs = random_pairs(rng, group, left, right, rng.randint(0, 5), rng.random() < 0.6)
            fitting = all_readings(pairs)
            kinds[bool(fitting)] = True
            self.check_pairs(pairs, fitting)
        self.assertEqual(len(kinds), 2)

    def check_pairs(self, pairs, fitting):
        lots = joined_lots(pairs)
        ring = pairs.case_ring()
        self.assertEqual(ring is None, bool(fitting))
        self.check_places(pairs, lots)
        if not fitting:
            self.assertIs(case_ring_holds(pairs, ring), True)
            self.assertIsNone(pairs.some_readings())
            self.assertEqual(pairs.board_count(), 0)
        else:
            heads = [min(lot) for lot in lots]
            told = [readings for readings in fitting if all(readings[side][content] == pairs.group.unit for side, content in heads)]
            self.assertEqual([pairs.some_readings()], told)
            self.assertFalse(has_lists(pairs.some_readings()))
            tables = {tuple(pairs.group.rows[x][y] for x in lefts for y in rights) for lefts, rights in fitting}
            self.assertEqual(pairs.board_count(), len(tables))
            self.assertEqual(pairs.board_count(), pairs.group.size ** (len(lots) - 1))
        for a in range(pairs.left):
            for b in range(pairs.right):
                self.check_place(pairs, fitting, lots, a, b)

    def check_place(self, pairs, fitting, lots, a, b):
        joined = any((0, a) in lot and (1, b) in lot for lot in lots)
        road = pairs.case_road(a, b)
        self.assertEqual(road is not None, joined)
        if joined:
            self.assertIs(case_road_holds(pairs, a, b, road), True)
            shorter = [row for many in range(1, len(road), 2) for row in itertools.product(range(len(pairs.cases)), repeat=many)]
            self.assertFalse(any(case_road_holds(pairs, a, b, row) for row in shorter))
        if not fitting:
            told_error(self, Refused, -1, pairs.sure_mark, a, b)
            told_error(self, Refused, -1, pairs.other_readings, a, b, 0)
            return
        marks = {pairs.group.rows[lefts[a]][rights[b]] for lefts, rights in fitting}
        sure = pairs.sure_mark(a, b)
        self.assertEqual(sure, min(marks) if len(marks) == 1 else None)
        self.assertEqual(len(marks) == 1, joined)
        if joined:
            self.assertEqual(road_mark(pairs, road), sure)
        for mark in range(pairs.group.size):
            found = pairs.other_readings(a, b, mark)
            if mark in marks:
                self.assertIn(found, fitting)
                self.assertFalse(has_lists(found))
                self.assertEqual(pairs.group.rows[found[0][a]][found[1][b]], mark)
            else:
                self.assertIsNone(found)

    def check_places(self, pairs, lots):
        places = pairs.fewest_places()
        self.assertEqual(len(places), len(lots) - 1)
        self.assertEqual(list(places), sorted(places))
        self.assertFalse(has_lists(places))
        wider = Pairs(pairs.group, pairs.left, pairs.right, pairs.cases + tuple((a, b, 0) for a, b in places))
        self.assertEqual(len(joined_lots(wider)), 1)

    def test_without_cases(self):
        pairs = Pairs(THREE, 3, 2, [])
        self.assertEqual(pairs.some_readings(), ((THREE.unit,) * 3, (THREE.unit,) * 2))
        self.assertIsNone(pairs.case_ring())
        self.assertIsNone(pairs.case_road(2, 1))
        self.assertIsNone(pairs.sure_mark(2, 1))
        self.assertEqual(pairs.board_count(), 6 ** 4)
        self.assertEqual(len(pairs.fewest_places()), 4)
        for mark in range(6):
            lefts, rights = pairs.other_readings(2, 1, mark)
            self.assertEqual(THREE.rows[lefts[2]][rights[1]], mark)

    def test_errors_in_order(self):
        clash = Pairs(TWO, 2, 2, ((0, 0, 0), (0, 0, 1)))
        fits = Pairs(TWO, 2, 2, ((0, 0, 0),))
        for value in any_values():
            if not (type(value) is int and 0 <= value < 2):
                for pairs in (clash, fits):
                    for call, further in ((pairs.case_road, ()), (pairs.sure_mark, ()), (pairs.other_readings, (None,))):
                        told_error(self, InvalidSetting, 0, call, value, value, *further)
                        told_error(self, InvalidSetting, 1, call, 0, value, *further)
                    told_error(self, InvalidSize, "mark", pairs.other_readings, 0, 1, value)
        self.assertEqual((clash.case_road(0, 0), clash.case_road(a=1, b=1)), ((0,), None))
        told_error(self, Refused, -1, clash.sure_mark, 1, 1)
        told_error(self, Refused, -1, clash.other_readings, 1, 1, 0)
        self.assertEqual(fits.sure_mark(a=0, b=0), 0)
        self.assertEqual(fits.other_readings(a=0, b=0, mark=0), ((0, 0), (0, 0)))
        self.assertIsNone(fits.other_readings(0, 0, 1))

    def test_greatest_pairs(self):
        rng = seeded(3)
        for group in GROUPS:
            for fitting in (True, False):
                pairs = random_pairs(rng, group, 60, 60, 40, fitting)
                lots = joined_lots(pairs)
                self.check_places(pairs, lots)
                readings = pairs.some_readings()
                ring = pairs.case_ring()
                self.assertEqual(readings is None, ring is not None)
                self.assertTrue(pairs_fit(pairs, readings) if ring is None else case_ring_holds(pairs, ring))
                self.assertEqual(pairs.board_count(), 0 if ring else group.size ** (len(lots) - 1))
                for a, b, mark in pairs.cases:
                    self.assertEqual(len(pairs.case_road(a, b)), 1)
        cases = [(at // 2 + at % 2, at // 2, at % 2) for at in range(40)]
        pairs = Pairs(TWO, 60, 60, cases)
        self.assertEqual(pairs.case_road(0, 19), tuple(range(39)))
        self.assertEqual(pairs.sure_mark(0, 19), road_mark(pairs, range(39)))

    def test_other_classes(self):
        self.assertIs(pairs_fit(Pairs(TWO, 1, 1, ()), Board(2, (2,), (0, 1))), False)


if __name__ == "__main__":
    unittest.main()
