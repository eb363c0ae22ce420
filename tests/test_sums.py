"""[86], [87], [88]: told cases of marks that are products of readings."""

import itertools
import unittest

from oncetested.boards import Board
from oncetested.errors import InvalidBoard, InvalidCases, InvalidSetting, InvalidTable, Refused
from oncetested.groups import Group
from oncetested.sums import Sums, clash_holds, numbers_hold, readings_hold, turns_hold
from support import (all_group_rows, any_values, as_lists, cycle_rows, has_lists, mixed_group, paired_rows, quaternion_rows, seeded,
                     settings_of, told_error)

COMMUTATIVE = [rows for rows in all_group_rows() if rows == tuple(zip(*rows))]
THREE = Group(cycle_rows(3))
SIX = Group(cycle_rows(6))


def random_sums(rng, rows, sizes, count, fitting):
    group = mixed_group(rng, rows)
    readings = [[rng.randrange(group.size) for _ in range(size)] for size in sizes]
    cases = []
    for _ in range(count):
        setting = rng.choice(settings_of(sizes))
        mark = group.product([row[content] for row, content in zip(readings, setting)])
        cases.append((setting, mark if fitting else rng.randrange(group.size)))
    return Sums(group, sizes, cases)


def all_readings(sums):
    """All readings that fit."""
    found = []
    for row in itertools.product(range(sums.group.size), repeat=sum(sums.sizes)):
        readings, at = [], 0
        for size in sums.sizes:
            readings.append(row[at:at + size])
            at += size
        if all(mark_by(sums, readings, setting) == mark for setting, mark in sums.cases):
            found.append(tuple(readings))
    return found


def mark_by(sums, readings, setting):
    done = sums.group.unit
    for row, content in zip(readings, setting):
        done = sums.group.rows[done][row[content]]
    return done


def counts_of(sums, setting):
    return [1] + [int(setting[part] == content) for part, size in enumerate(sums.sizes) for content in range(1, size)]


def made(sums, numbers):
    """The counts that numbers make, and their mark."""
    counts = [0] * len(counts_of(sums, (0,) * len(sums.sizes)))
    mark = sums.group.unit
    for (setting, told), number in zip(sums.cases, numbers):
        counts = [count + number * further for count, further in zip(counts, counts_of(sums, setting))]
        mark = sums.group.product([mark, sums.group.power(told, number)])
    return counts, mark


def some_sums(number, count):
    rng = seeded(number)
    for at in range(count):
        rows = rng.choice(COMMUTATIVE)
        sizes = [rng.randint(1, 3) for _ in range(rng.randint(1, 3))]
        if len(rows) ** sum(sizes) > 3000:
            sizes = [rng.randint(1, 2), 2] if len(rows) < 8 else [2]
        yield rng, random_sums(rng, rows, sizes, rng.randint(0, 6), rng.random() < 0.6)


class TestSums(unittest.TestCase):
    def test_attributes(self):
        sizes, cases = [2, 1], [((0, 0), 1)]
        sums = Sums(THREE, sizes, cases)
        sizes[0] = 5
        cases.append(None)
        self.assertIs(sums.group, THREE)
        self.assertEqual((sums.sizes, sums.cases, sums.exponent), ((2, 1), (((0, 0), 1),), 3))
        self.assertFalse(has_lists((sums.sizes, sums.cases)))
        for rows in COMMUTATIVE:
            group = Group(rows)
            told = min(n for n in range(1, 13) if all(group.power(x, n) == group.unit for x in range(group.size)))
            self.assertEqual(Sums(cases=(), group=group, sizes=(1,)).exponent, told)
        with self.assertRaises(TypeError):
            len(sums)
        with self.assertRaises(TypeError):
            iter(sums)

    def test_refusals_in_order(self):
        for value in any_values() + [Group(quaternion_rows()), THREE.rows]:
            if not (isinstance(value, Group) and value.rows == tuple(zip(*value.rows))):
                told_error(self, InvalidTable, -1, Sums, value, None, None)
            if not isinstance(value, (list, tuple)):
                told_error(self, InvalidCases, -1, Sums, THREE, (1,), value)
                told_error(self, InvalidBoard, ("sizes", -1), Sums, THREE, value, None)
            told_error(self, InvalidCases, 1, Sums, THREE, (2, 2), [((0, 1), 2), value, None])
        for sizes, at in (((), -1), ((1,) * 9, -1), ((0,), 0), ((2, True), 1), ([2, "2"], 1), ((1, -1, 0), 1), ("22", -1)):
            told_error(self, InvalidBoard, ("sizes", at), Sums, THREE, sizes, None)
        for case in (((0, 2), 0), ([0, 0], 0), [(0, 0), 0], ((0, 0), 3), ((0, 0), True), ((0, 0),), ((0, 0), 0, 0), ((0,), 0), ((0, False), 0),
                     ((0, 0), -1), (0, 0)):
            told_error(self, InvalidCases, 0, Sums, THREE, (2, 2), (case,))
        self.assertEqual(Sums(Group([[0]]), [1], []).exponent, 1)

    def test_example(self):
        sums = Sums(THREE, (2, 2), (((0, 0), 1), ((1, 0), 2), ((0, 1), 0)))
        self.assertEqual((sums.sure_mark((1, 1)), sums.sure_numbers((1, 1)), sums.board_count()), (1, (2, 1, 1), 1))
        self.assertIs(numbers_hold(sums=sums, setting=(1, 1), value=(2, 1, 1)), True)
        self.assertEqual((sums.sure_mark(setting=[1, 1]), sums.sure_numbers(setting=[1, 1]), sums.open_turns(setting=[1, 1])), (1, (2, 1, 1), None))


class TestPapers(unittest.TestCase):
    def test_small_sums_by_all_readings(self):
        kinds = {}
        for rng, sums in some_sums(1, 120):
            fitting = all_readings(sums)
            kinds[bool(fitting)] = True
            readings, clash = sums.some_readings(), sums.clash_paper()
            self.assertEqual(readings is None, not fitting)
            self.assertEqual(clash is None, bool(fitting))
            settings = settings_of(sums.sizes)
            tables = {tuple(mark_by(sums, row, setting) for setting in settings) for row in fitting}
            self.assertEqual(sums.board_count(), len(tables))
            if fitting:
                self.assertIn(readings, fitting)
                self.check_settings(sums, fitting)
            else:
                self.assertIs(clash_holds(sums, clash), True)
                for setting in settings:
                    for call in (sums.sure_mark, sums.sure_numbers, sums.open_turns):
                        told_error(self, Refused, -1, call, setting)
            self.check_clashes(rng, sums)
        self.assertEqual(len(kinds), 2)

    def check_settings(self, sums, fitting):
        for setting in settings_of(sums.sizes):
            marks = {mark_by(sums, readings, setting) for readings in fitting}
            mark, numbers, turns = sums.sure_mark(setting), sums.sure_numbers(setting), sums.open_turns(setting)
            self.assertEqual(mark, min(marks) if len(marks) == 1 else None)
            self.assertEqual((numbers is None, turns is None), (mark is None, mark is not None))
            if numbers is None:
                self.assertIs(turns_hold(sums, setting, turns), True)
                self.check_turns(sums, setting, turns)
            else:
                self.assertIs(numbers_hold(sums, setting, numbers), True)
                self.assertEqual(made(sums, numbers)[1], mark)
                self.check_numbers(sums, setting, numbers)

    def check_numbers(self, sums, setting, numbers):
        exponent = sums.exponent
        self.assertIs(numbers_hold(sums, setting, list(numbers)), False)
        self.assertIs(numbers_hold(sums, setting, numbers + (0,)), False)
        for at, number in enumerate(numbers):
            for other in range(-1, exponent + 1):
                value = numbers[:at] + (other,) + numbers[at + 1:]
                right = all((one - count) % exponent == 0 for one, count in zip(made(sums, value)[0], counts_of(sums, setting)))
                self.assertIs(numbers_hold(sums, setting, value), right and 0 <= other < exponent)
            if number < 2:
                self.assertIs(numbers_hold(sums, setting, numbers[:at] + (bool(number),) + numbers[at + 1:]), False)

    def check_turns(self, sums, setting, turns):
        size = sums.group.size
        for value in (as_lists(turns), list(turns), turns[:-1], turns + turns[:1], (list(turns[0]),) + turns[1:], (turns[0] + (0,),) + turns[1:],
                      ((size,) + turns[0][1:],) + turns[1:], ((-1,) + turns[0][1:],) + turns[1:]):
            self.assertIs(turns_hold(sums, setting, value), False)
        for other in range(size):
            value = ((other,) + turns[0][1:],) + turns[1:]
            right = all(mark_by(sums, value, case[0]) == sums.group.unit for case in sums.cases)
            self.assertIs(turns_hold(sums, setting, value), right and mark_by(sums, value, setting) != sums.group.unit)

    def clash_right(self, sums, share, numbers):
        """Whether a share and numbers show that no readings fit."""
        if not 1 <= share <= sums.exponent or sums.exponent % share or not all(0 <= number < sums.exponent for number in numbers):
            return False
        counts, mark = made(sums, numbers)
        powers = [sums.group.power(x, share) for x in range(sums.group.size)]
        return len(numbers) == len(sums.cases) and all(count % share == 0 for count in counts) and mark not in powers

    def check_clashes(self, rng, sums):
        clash = sums.clash_paper()
        tried = [(rng.randint(0, sums.exponent + 1), tuple(rng.randint(0, sums.exponent) for _ in sums.cases)) for _ in range(30)]
        if clash:
            share, numbers = clash
            self.assertFalse(has_lists(clash))
            tried += [(other, numbers) for other in range(-1, sums.exponent + 2)]
            tried += [(share, numbers[:at] + (other,) + numbers[at + 1:]) for at in range(len(numbers)) for other in range(sums.exponent + 1)]
            tried += [(share, numbers[:-1]), (share, numbers + (0,))]
            for value in (list(clash), (share, list(numbers)), (numbers, share), clash + (0,), (bool(share), numbers) if share == 1 else None,
                          (str(share), numbers), (share,)):
                self.assertIs(clash_holds(sums, value), False)
        for share, numbers in tried:
            self.assertIs(clash_holds(sums, (share, numbers)), self.clash_right(sums, share, numbers))

    def test_readings_that_hold(self):
        for rng, sums in some_sums(2, 40):
            fitting = all_readings(sums)
            for readings in rng.sample(fitting, min(4, len(fitting))):
                self.assertIs(readings_hold(sums, readings), True)
                self.assertIs(readings_hold(sums=sums, value=as_lists(readings)), False)
                for value in (list(readings), readings[:-1], readings + readings[:1], (readings[0][:-1],) + readings[1:],
                              (list(readings[0]),) + readings[1:], ((sums.group.size,) + readings[0][1:],) + readings[1:],
                              (readings[0] + (0,),) + readings[1:], ((None,) + readings[0][1:],) + readings[1:]):
                    self.assertIs(readings_hold(sums, value), False)
                for other in range(sums.group.size):
                    value = ((other,) + readings[0][1:],) + readings[1:]
                    self.assertIs(readings_hold(sums, value), value in fitting)
        sums = Sums(THREE, (1,), ())
        self.assertIs(readings_hold(sums, ((1,),)), True)
        self.assertIs(readings_hold(sums, ((True,),)), False)

    def test_any_values(self):
        sums = Sums(SIX, (2, 2), (((0, 0), 1), ((0, 0), 2), ((1, 1), 3)))
        fits = Sums(SIX, (2, 2), (((0, 0), 1),))
        for value in any_values():
            for told in (sums, fits):
                self.assertIs(clash_holds(told, value), False)
                self.assertIs(turns_hold(told, (0, 1), value), value == ((0, 1), (1, 0)) and turns_hold(told, (0, 1), ((0, 1), (1, 0))))
                self.assertIs(readings_hold(told, value), told is fits and value == ((0, 1), (1, 0)))
                self.assertIs(numbers_hold(told, (0, 1), value), False)
        self.assertIs(numbers_hold(fits, (0, 0), (1,)), True)
        self.assertIs(numbers_hold(fits, (0, 0), (True,)), False)

    def test_errors_in_order(self):
        clash = Sums(SIX, (2, 2), (((0, 0), 1), ((0, 0), 2)))
        fits = Sums(SIX, (2, 2), ())
        for call in ("sure_mark", "sure_numbers", "open_turns"):
            for value, at in ((None, -1), ((0,), -1), ([0, 0, 0], -1), ((2, 0), 0), ((0, True), 1), ("00", -1), ((0, -1), 1)):
                told_error(self, InvalidSetting, at, getattr(clash, call), value)
                told_error(self, InvalidSetting, at, getattr(fits, call), value)
            told_error(self, Refused, -1, getattr(clash, call), (1, 1))
            for value in any_values():
                try:
                    getattr(fits, call)(value)
                except InvalidSetting:
                    pass

    def test_shares(self):
        four = Group(cycle_rows(4))
        # Twice the reading of one part is told, by no case alone.
        sums = Sums(four, (2, 2, 2), (((0, 0, 0), 0), ((1, 1, 0), 1), ((1, 0, 1), 1), ((0, 1, 1), 1)))
        self.assertIsNotNone(sums.clash_paper())
        self.assertEqual(sums.clash_paper()[0], 2)
        fits = Sums(four, (2, 2, 2), (((0, 0, 0), 0), ((1, 1, 0), 1), ((1, 0, 1), 1), ((0, 1, 1), 2)))
        self.assertEqual(fits.board_count(), 2)
        self.assertIsNone(fits.sure_mark((1, 0, 0)))
        self.assertIs(turns_hold(fits, (1, 0, 0), fits.open_turns((1, 0, 0))), True)
        odd = Sums(THREE, (2, 2, 2), (((0, 0, 0), 0), ((1, 1, 0), 1), ((1, 0, 1), 1), ((0, 1, 1), 1)))
        self.assertEqual((odd.board_count(), odd.sure_mark((1, 0, 0))), (1, 2))


class TestShares(unittest.TestCase):
    """Cases whose counts make those of other settings twice, but not once."""

    def tables(self, sums):
        """The boards of all readings with the unit for the contents 0 of all parts but the first one."""
        found = []
        for row in itertools.product(range(sums.group.size), repeat=1 + len(sums.sizes)):
            readings = [(row[0], sums.group.rows[row[0]][row[1]])] + [(sums.group.unit, x) for x in row[2:]]
            if all(mark_by(sums, readings, setting) == mark for setting, mark in sums.cases):
                found.append(readings)
        return found

    def check(self, sums):
        fitting = self.tables(sums)
        self.assertEqual(sums.board_count(), len(fitting))
        self.assertEqual(sums.clash_paper() is None, bool(fitting))
        if not fitting:
            self.assertIs(clash_holds(sums, sums.clash_paper()), True)
            return False
        self.assertIs(readings_hold(sums, sums.some_readings()), True)
        for setting in settings_of(sums.sizes):
            marks = {mark_by(sums, readings, setting) for readings in fitting}
            self.assertEqual(sums.sure_mark(setting), min(marks) if len(marks) == 1 else None)
            if len(marks) == 1:
                self.assertIs(numbers_hold(sums, setting, sums.sure_numbers(setting)), True)
            else:
                self.assertIs(turns_hold(sums, setting, sums.open_turns(setting)), True)
        return True

    def test_by_all_tables(self):
        rng = seeded(6)
        seen = {}
        twice = [(0, 0, 0, 0), (1, 1, 0, 0), (1, 0, 1, 1), (0, 1, 1, 1)]
        for _ in range(60):
            rows = rng.choice([cycle_rows(4), cycle_rows(6), paired_rows(cycle_rows(2), cycle_rows(2))])
            group = mixed_group(rng, rows)
            readings = [[rng.randrange(group.size) for _ in range(2)] for _ in range(4)]
            told = twice + [rng.choice(settings_of((2,) * 4)) for _ in range(rng.randint(0, 2))]
            rng.shuffle(told)
            cases = [(setting, group.product([row[content] for row, content in zip(readings, setting)])) for setting in told]
            if rng.random() < 0.4:
                cases[-1] = (cases[-1][0], rng.randrange(group.size))
            seen[self.check(Sums(group, (2,) * 4, cases))] = True
        self.assertEqual(len(seen), 2)

    def test_greater_groups(self):
        group = Group(cycle_rows(9))
        told = [(0, 0, 0), (1, 1, 0), (1, 0, 1), (0, 1, 1)]
        for marks in ((0, 2, 2, 2), (0, 3, 3, 3), (1, 1, 2, 4)):
            self.check(Sums(group, (2,) * 3, list(zip(told, marks))))
        rng = seeded(7)
        for _ in range(20):
            told = [tuple(rng.randrange(2) for _ in range(4)) for _ in range(6)]
            group = mixed_group(rng, cycle_rows(8) if rng.random() < 0.3 else cycle_rows(4))
            sizes = (2,) * 3 if group.size == 8 else (2,) * 4
            cases = [(setting[:len(sizes)], rng.randrange(group.size) if rng.random() < 0.1 else group.unit) for setting in told]
            self.check(Sums(group, sizes, cases))


class TestFurther(unittest.TestCase):
    def all_sure(self, sums, further):
        wider = Sums(sums.group, sums.sizes, [(case[0], sums.group.unit) for case in sums.cases] + [(setting, sums.group.unit) for setting in further])
        return all(wider.sure_mark(setting) is not None for setting in settings_of(sums.sizes))

    def test_the_first_of_the_fewest(self):
        refused = 0
        for _, sums in some_sums(3, 120):
            if sums.exponent in (6, 10, 12):
                told_error(self, Refused, -1, sums.fewest_settings)
                refused += 1
                continue
            settings = settings_of(sums.sizes)
            if len(settings) > 12:
                continue
            lots = (lot for many in range(len(settings) + 1) for lot in itertools.combinations(settings, many))
            self.assertEqual(sums.fewest_settings(), next(lot for lot in lots if self.all_sure(sums, lot)))
        self.assertGreater(refused, 5)

    def test_without_cases(self):
        for rows in COMMUTATIVE:
            sums = Sums(Group(rows), (3, 1, 2, 2), ())
            self.assertEqual(sums.board_count(), len(rows) ** 5)
            self.assertEqual(len(sums.some_readings()), 4)
            self.assertIsNone(sums.clash_paper())
            if sums.exponent in (6, 10, 12):
                told_error(self, Refused, -1, sums.fewest_settings)
            else:
                few = tuple(setting for setting in settings_of(sums.sizes) if sum(content > 0 for content in setting) <= 1)
                self.assertEqual(sums.fewest_settings(), few if len(rows) > 1 else ())

    def test_cases_that_clash(self):
        sums = Sums(THREE, (2, 2), (((0, 0), 0), ((0, 0), 1), ((1, 1), 0)))
        self.assertEqual((sums.board_count(), sums.some_readings(), sums.fewest_settings()), (0, None, ((0, 1),)))
        self.assertIs(clash_holds(sums=sums, value=sums.clash_paper()), True)

    def test_limits(self):
        rng = seeded(4)
        for rows in (cycle_rows(12), cycle_rows(8), paired_rows(cycle_rows(2), cycle_rows(6)), cycle_rows(11)):
            for sizes in ((4, 4, 4, 4), (2,) * 8, (16, 8), (2, 3, 5, 7)):
                for fitting in (True, False):
                    sums = random_sums(rng, rows, sizes, 12, fitting)
                    settings = settings_of(sizes)
                    clash, readings = sums.clash_paper(), sums.some_readings()
                    self.assertTrue(clash_holds(sums, clash) if readings is None else readings_hold(sums, readings))
                    if readings:
                        for setting in rng.sample(settings, 10):
                            numbers = sums.sure_numbers(setting)
                            if numbers is None:
                                self.assertIs(turns_hold(sums, setting, sums.open_turns(setting)), True)
                            else:
                                self.assertIs(numbers_hold(sums, setting, numbers), True)
                    if sums.exponent in (8, 11):
                        self.assertGreaterEqual(len(sums.fewest_settings()), 1 + sum(sizes) - len(sizes) - 12)
        many = Sums(SIX, (2, 2), [(setting, 0) for setting in settings_of((2, 2))] * 20)
        self.assertEqual((many.board_count(), many.sure_mark((1, 1))), (1, 0))

    def test_boards_are_no_sums(self):
        told_error(self, InvalidTable, -1, Sums, Board(2, (2,), (0, 1)), (1,), ())


if __name__ == "__main__":
    unittest.main()
