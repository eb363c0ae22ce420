"""[68]: renewals and movers of nets that are never laid out."""

import itertools
import time
import unittest

from oncetested.errors import InvalidLot, InvalidRenewal, InvalidSize, Refused
from oncetested.movers import part_movers
from oncetested.nets import Net, net_board
from oncetested.renewals import is_renewal, lot_renewals
from oncetested.steady import net_broken, net_movers, net_renewals
from netting import random_net
from shaping import BITS, EIGHT_BITS, FOUR, SIX
from support import any_values, as_lists, cycle_rows, has_lists, lots_of, seeded, told_error


def flat(rows):
    return tuple(mark for row in rows for mark in row)


def chain(rows, parts):
    """The net that multiplies its parts from the first one on."""
    made = [(flat(rows), (0, 1))] if parts > 1 else []
    for part in range(2, parts):
        made.append((flat(rows), (parts + part - 2, part)))
    return Net(len(rows), parts, made)


def nets(number, count):
    rng = seeded(number)
    yield rng, chain(FOUR, 3)
    yield rng, chain(BITS, 4)
    yield rng, chain(SIX, 3)
    yield rng, Net(3, 1, ())
    yield rng, Net(3, 1, [((1, 2, 0), (0,))])
    for _ in range(count):
        many = rng.randint(2, 4)
        yield rng, random_net(rng, many, rng.randint(1, 5 if many == 2 else 3 + (many == 3)))


def led(setting, lot, rows):
    told = dict(zip(lot, rows))
    return tuple(told[part][content] if part in told else content for part, content in enumerate(setting))


def random_rows(rng, many, lot):
    return tuple(tuple(rng.sample(range(many), many)) for _ in lot)


class TestSmallNets(unittest.TestCase):
    def test_renewals_against_boards(self):
        counts = set()
        for _, net in nets(1, 60):
            board = net_board(net)
            for lot in lots_of(net.parts):
                if len(lot) < 4 and net.many ** (3 * len(lot)) < 10 ** 6:
                    told = lot_renewals(board, lot)
                    self.assertEqual(net_renewals(net, lot), told)
                    self.assertEqual(net_renewals(net=net, lot=list(lot)), told)
                    self.assertFalse(has_lists(told))
                    counts.add((len(lot), len(told)))
        self.assertTrue({(1, 1), (2, 1), (2, 2), (2, 4), (3, 16)} <= counts)

    def test_movers_against_boards(self):
        counts = set()
        for _, net in nets(2, 60):
            board = net_board(net)
            for part in range(net.parts):
                if net.parts == 1:
                    told_error(self, Refused, 0, net_movers, net, 0)
                else:
                    told = part_movers(board, part)
                    self.assertEqual(net_movers(net, part), told)
                    self.assertEqual(net_movers(net=net, part=part), told)
                    self.assertFalse(has_lists(told))
                    counts.add((net.many, len(told)))
        self.assertTrue({(2, 2), (4, 1), (4, 4), (6, 6), (6, 1)} <= counts)

    def test_broken_against_boards(self):
        seen = set()
        for rng, net in nets(3, 60):
            board = net_board(net)
            for lot in lots_of(net.parts):
                rows = [random_rows(rng, net.many, lot), (tuple(range(net.many)),) * len(lot)]
                if len(lot) < 4:
                    rows.append(rng.choice(net_renewals(net, lot)))
                for each in rows:
                    broken = net_broken(net, lot, each)
                    self.assertIs(broken is None, is_renewal(board, lot, each))
                    if broken is not None:
                        self.assertIsInstance(broken, tuple)
                        self.assertNotEqual(board(broken), board(led(broken, lot, each)))
                    again = net_broken(net=net, lot=list(lot), rows=as_lists(each))
                    self.assertEqual(again, broken)
                    seen.add((len(lot), broken is None))
        self.assertTrue({(2, True), (2, False), (3, True), (3, False), (4, False)} <= seen)


class TestErrors(unittest.TestCase):
    def test_lots(self):
        net = chain(FOUR, 5)
        for call, further in ((net_broken, (None,)), (net_renewals, ())):
            for value in any_values():
                if not isinstance(value, (list, tuple)) or len(value) == 0:
                    told_error(self, InvalidLot, -1, call, net, value, *further)
            for lot, at in (((5,), 0), ((0, 0), 1), ([2, 1], 1), ((True,), 0), ((0, 1, 2, 3, 5), 4)):
                told_error(self, InvalidLot, at, call, net, lot, *further)

    def test_four_parts_and_more(self):
        net = chain(FOUR, 5)
        for lot in ((0, 1, 2, 3), [0, 1, 2, 3, 4], (1, 2, 3, 4)):
            told_error(self, InvalidSize, "lot", net_renewals, net, lot)
        told_error(self, InvalidLot, 3, net_renewals, net, (0, 1, 2, 2, 3))
        self.assertEqual(len(net_renewals(net, (0, 2, 4))), 16)

    def test_rows(self):
        net = chain(FOUR, 3)
        idle = (0, 1, 2, 3)
        for value in any_values():
            if not isinstance(value, (list, tuple)) or len(value) != 2:
                told_error(self, InvalidRenewal, -1, net_broken, net, (0, 1), value)
        for row in any_values() + [(0, 1, 2), (0, 1, 2, 2), (0, True, 2, 3), "0123", idle + (4,), (0, 1, 2, 4)]:
            told_error(self, InvalidRenewal, 0, net_broken, net, (0, 1), (row, row))
            told_error(self, InvalidRenewal, 1, net_broken, net, (0, 1), [list(idle), row])
        told_error(self, InvalidRenewal, -1, net_broken, net, (0, 1), (idle,))
        told_error(self, InvalidRenewal, -1, net_broken, net, (0, 1), (idle,) * 3)
        self.assertIsNone(net_broken(net, [0, 1], [idle, list(idle)]))

    def test_parts(self):
        net = chain(FOUR, 3)
        for value in any_values() + [3, -1]:
            if not (type(value) is int and 0 <= value < 3):
                told_error(self, InvalidLot, 0, net_movers, net, value)
        told_error(self, InvalidLot, 0, net_movers, Net(2, 1, ()), 1)
        told_error(self, Refused, 0, net_movers, Net(2, 1, ()), 0)


class TestGreatNets(unittest.TestCase):
    def check(self, rng, net, lot, rows, right):
        broken = net_broken(net, lot, rows)
        self.assertIs(broken is None, right)
        if broken is not None:
            self.assertNotEqual(net(broken), net(led(broken, lot, rows)))
        else:
            for _ in range(5):
                setting = tuple(rng.randrange(net.many) for _ in range(net.parts))
                self.assertEqual(net(setting), net(led(setting, lot, rows)))

    def test_60_parts(self):
        started = time.time()
        rng = seeded(4)
        turns = lambda many, step: tuple((content + step) % many for content in range(many))
        for many in (2, 3, 5, 8):
            net = chain(cycle_rows(many), 60)
            whole = tuple(range(60))
            for lot in ((0, 59), (3, 20), (7, 30, 55)):
                told = net_renewals(net, lot)
                self.assertEqual(len(told), many ** (len(lot) - 1))
                for rows in (told[1], told[-1]):
                    self.check(rng, net, lot, rows, True)
                self.check(rng, net, lot, (turns(many, 1),) + told[1][1:], told[1][0] == turns(many, 1))
            self.check(rng, net, whole, [turns(many, 1)] * (many * (60 // many)) + [turns(many, 0)] * (60 % many), True)
            self.check(rng, net, whole, [turns(many, 1)] * (many * (60 // many) - 1) + [turns(many, 0)] * (60 % many + 1), False)
            self.assertEqual([len(net_movers(net, part)) for part in (0, 30, 59)], [many] * 3)
            self.assertEqual(net_movers(net, 59)[1], (turns(many, 1), turns(many, 1)))
        self.assertLess(time.time() - started, 30)

    def test_lines(self):
        rng = seeded(5)
        net = chain(SIX, 60)
        for lot, count in (((10, 11), 6), ((10, 12), 1), ((0, 59), 1), ((0, 1, 2), 36), ((5, 20, 40), 1), ((5, 6, 40), 6)):
            told = net_renewals(net, lot)
            self.assertEqual(len(told), count)
            for rows in told[:3]:
                self.check(rng, net, lot, rows, True)
        self.assertEqual([len(net_movers(net, part)) for part in (0, 1, 30, 58, 59)], [6, 1, 1, 1, 6])

    def test_random_nets(self):
        started = time.time()
        rng = seeded(6)
        for many, most in ((2, 3), (3, 3), (4, 2), (5, 2), (8, 2), (6, 2)):
            net = random_net(rng, many, 60, most)
            for lot in ((0, 1), (5, 17, 59), (30,)):
                told = net_renewals(net, lot)
                self.assertEqual(told[0], (tuple(range(many)),) * len(lot))
                for rows in told[1:4]:
                    self.check(rng, net, lot, rows, True)
            for part in (0, 31):
                for row, marks in net_movers(net, part):
                    for _ in range(6):
                        setting = tuple(rng.randrange(many) for _ in range(60))
                        self.assertEqual(net(led(setting, (part,), (row,))), marks[net(setting)])
            net_broken(net, tuple(range(60)), random_rows(rng, many, range(60)))
        self.assertLess(time.time() - started, 30)

    def test_rows_of_three_wires(self):
        rng = seeded(7)
        odd = tuple(x ^ y ^ z ^ int(max(x, y, z) < 2) for x, y, z in itertools.product(range(4), repeat=3))
        made = [(odd, (0, 1, 2))] + [(flat(BITS), (12 + at, 3 + at)) for at in range(9)]
        net = Net(4, 12, made)
        self.assertEqual(net_renewals(net, (0, 1)), (((0, 1, 2, 3),) * 2, ((1, 0, 3, 2),) * 2))
        self.check(rng, net, (0, 1), ((2, 3, 0, 1),) * 2, False)
        self.assertEqual(len(net_renewals(net, (3, 11))), 4)
        # What is led by one row keeps the mark; renewals of the pair above do not reach into the odd row.
        self.assertEqual(len(net_renewals(net, (0, 3))), 2)
        self.assertEqual([len(net_movers(net, part)) for part in (0, 5)], [2, 4])
        five = random_net(rng, 5, 60, 2)
        self.assertEqual(len(net_movers(five, 7)) in (1, 5), True)
        self.assertEqual(len(net_movers(chain(EIGHT_BITS, 60), 7)), 8)


if __name__ == "__main__":
    unittest.main()
