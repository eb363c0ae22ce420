"""[50], [51]: changes counted in nets, and nets of one make."""

import itertools
import unittest

from oncetested.errors import InvalidLot, Refused
from oncetested.nets import Net, net_board, turned_net
from oncetested.stays import pair_case, pair_counts, stay_count, unlike_case, unlike_count
from netting import random_net, random_table, remade, run
from support import cycle_rows, has_lists, lots_of, rest, seeded, settings_of, told_error

BOTH = [a ^ b for a in range(4) for b in range(4)]
APART = [(a - b) & 3 for a in range(4) for b in range(4)]


def mark(net, lot, inside, outside):
    told = dict(zip(lot, inside)) | dict(zip(rest(net.parts, lot), outside))
    return run(net, tuple(told[part] for part in range(net.parts)))[-1]


class TestCounts(unittest.TestCase):
    def test_example(self):
        net = Net(4, 4, [(BOTH, (0, 1)), (BOTH, (4, 2)), (APART, (5, 3))])
        self.assertEqual((stay_count(net, (0, 2), (0, 1), (1, 0)), stay_count(net, (0, 3), (0, 1), (1, 2))), (16, 8))

    def test_small_nets_by_all_contents(self):
        rng = seeded(1)
        for _ in range(50):
            net = random_net(rng, rng.randint(2, 4), rng.randint(1, 4))
            for lot in lots_of(net.parts):
                u = tuple(rng.randrange(net.many) for _ in lot)
                v = tuple(rng.randrange(net.many) for _ in lot)
                self.check(net, lot, u, v)
                self.check(net, lot, u, u)

    def check(self, net, lot, u, v):
        places = settings_of((net.many,) * (net.parts - len(lot)))
        told = [(mark(net, lot, u, w), mark(net, lot, v, w)) for w in places]
        counts = pair_counts(net, lot, u, v)
        self.assertEqual(counts, tuple(tuple(told.count((a, b)) for b in range(net.many)) for a in range(net.many)))
        self.assertFalse(has_lists(counts))
        self.assertEqual(pair_counts(net=net, lot=list(lot), u=list(u), v=list(v)), counts)
        self.assertEqual(stay_count(net, lot, u, v), sum(a == b for a, b in told))
        self.assertEqual(stay_count(net=net, lot=list(lot), u=u, v=v), stay_count(net, lot, u, v))
        for a, b in itertools.product(range(net.many), repeat=2):
            case = pair_case(net, lot, u, v, a, b)
            self.assertEqual(pair_case(net=net, lot=list(lot), u=u, v=v, a=a, b=b), case)
            if (a, b) in told:
                self.assertEqual((mark(net, lot, u, case), mark(net, lot, v, case)), (a, b))
                self.assertIn(case, places)
                self.assertIsInstance(case, tuple)
            else:
                self.assertIsNone(case)
        if len(lot) < net.parts:
            sums = {sum(row) for row in counts} | {sum(column) for column in zip(*counts)}
            self.assertEqual(len(sums), 1)

    def test_the_lot_of_all_parts(self):
        net = Net(2, 2, [((0, 1, 1, 0), (0, 1))])
        self.assertEqual(pair_counts(net, (0, 1), (0, 0), (0, 1)), ((0, 1), (0, 0)))
        self.assertEqual(pair_case(net, (0, 1), (0, 0), (0, 1), 0, 1), ())
        self.assertIsNone(pair_case(net, (0, 1), (0, 0), (0, 1), 1, 0))
        self.assertEqual(stay_count(net, (0, 1), (0, 0), (1, 1)), 1)

    def test_no_lots(self):
        net = Net(2, 2, [((0, 1, 1, 0), (0, 1))])
        for lot, at in ((None, -1), ((), -1), ((2,), 0), ((0, 0), 1), ([1, 0], 1), ((True,), 0), ("0", -1), ((0, 1, 2), 2)):
            told_error(self, InvalidLot, at, pair_counts, net, lot, (0,), (1,))
            told_error(self, InvalidLot, at, pair_case, net, lot, (0,), (1,), 0, 0)
            told_error(self, InvalidLot, at, stay_count, net, lot, (0,), (1,))

    def test_nets_of_many_parts(self):
        rng = seeded(2)
        for many, parts, most in ((8, 80, 2), (5, 80, 3), (4, 80, 3), (2, 80, 3)):
            net = random_net(rng, many, parts, most)
            for size in (1, 2, 40, 79, 80):
                lot = tuple(sorted(rng.sample(range(parts), size)))
                u = tuple(rng.randrange(many) for _ in lot)
                v = tuple(rng.randrange(many) for _ in lot)
                counts = pair_counts(net, lot, u, v)
                self.assertEqual(sum(sum(row) for row in counts), many ** (parts - size))
                if size < parts:
                    for row in list(counts) + list(zip(*counts)):
                        self.assertEqual(sum(row), many ** (parts - size - 1))
                self.assertEqual(stay_count(net, lot, u, v), sum(counts[a][a] for a in range(many)))
                for a, b in itertools.product(range(min(many, 3)), repeat=2):
                    case = pair_case(net, lot, u, v, a, b)
                    self.assertEqual(case is None, counts[a][b] == 0)
                    if case is not None:
                        self.assertEqual((mark(net, lot, u, case), mark(net, lot, v, case)), (a, b))


class TestOneMake(unittest.TestCase):
    def test_by_all_settings(self):
        rng = seeded(3)
        seen = {}
        for _ in range(80):
            one = random_net(rng, rng.randint(2, 4), rng.randint(1, 4))
            other = remade(rng, one) if rng.random() < 0.8 else Net(one.many, one.parts, one.rows)
            unlike = [setting for setting in settings_of((one.many,) * one.parts) if run(one, setting)[-1] != run(other, setting)[-1]]
            self.assertEqual(unlike_count(one, other), len(unlike))
            self.assertEqual(unlike_count(one=other, other=one), len(unlike))
            case = unlike_case(one=one, other=other)
            self.assertTrue(case in unlike if unlike else case is None)
            self.assertTrue(not unlike or len(unlike) >= 2 ** one.parts)
            seen[bool(unlike)] = True
        self.assertEqual(len(seen), 2)

    def test_others_are_refused(self):
        two = Net(2, 2, [((0, 1, 1, 0), (0, 1))])
        for other in (Net(2, 2, [((0, 1, 1, 0), (1, 0))]), Net(2, 1, ()), Net(3, 2, [(sum(cycle_rows(3), ()), (0, 1))]),
                      Net(2, 2, [((0, 1, 1, 0), (0, 1)), ((0, 1), (2,))]), Net(2, 3, [((0, 1, 1, 0), (0, 1)), ((0, 1, 1, 0), (2, 3))])):
            told_error(self, Refused, -1, unlike_count, two, other)
            told_error(self, Refused, -1, unlike_case, other, two)
        told_error(self, Refused, -1, unlike_count, Net(2, 1, ()), Net(3, 1, ()))
        self.assertEqual((unlike_count(Net(3, 1, ()), Net(3, 1, ())), unlike_case(Net(3, 1, ()), Net(3, 1, ()))), (0, None))

    def test_great_nets(self):
        rng = seeded(4)
        for many, parts, most in ((8, 80, 2), (5, 80, 3), (2, 80, 3)):
            one = random_net(rng, many, parts, most)
            other = remade(rng, one)
            count = unlike_count(one, other)
            self.assertTrue(count == 0 or count >= 2 ** parts)
            case = unlike_case(one, other)
            self.assertEqual(case is None, count == 0)
            if case:
                self.assertNotEqual(run(one, case)[-1], run(other, case)[-1])
            self.assertEqual((unlike_count(one, one), unlike_case(one, one)), (0, None))
        table = random_table(rng, 2, 2)
        rows = [(table, (0, 1))] + [(table, (80 + at, at + 2)) for at in range(78)]
        turned = rows[:-1] + [([1 - mark for mark in table], rows[-1][1])]
        self.assertEqual(unlike_count(Net(2, 80, rows), Net(2, 80, turned)), 2 ** 80)

    def test_boards_agree(self):
        rng = seeded(5)
        net = random_net(rng, 3, 4)
        self.assertEqual(net_board(turned_net(net, (0, 1, 2, 3))), net_board(net))


if __name__ == "__main__":
    unittest.main()
