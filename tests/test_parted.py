"""[54], [55]: noes of nets, and nets that bring a lot together, by all settings of small nets and spoilt at great ones."""

import time
import unittest

from oncetested.errors import InvalidLot
from oncetested.looks import no_holds
from oncetested.nets import Net, lean_net, led_net, net_board, net_lots
from oncetested.parted import gathered_holds, gathered_net, net_no, net_no_holds
from oncetested.strong import net_form, net_strong, net_tested
from netting import random_net, run
from shaping import BITS, FOUR, SIX, SQUARE, looked_lots, odd_mark
from support import any_values, as_lists, has_lists, lots_of, rest, seeded, settings_of, told_error
from test_strong import flat, great_net, odd_table, small_nets


def twisted_table(rng):
    """A table of three wires that can't be split, but may seem to be that of a group beside 0 of one wire."""
    turns = [rng.choice((0, 2)) for _ in range(3)]
    return tuple(odd_mark(tuple(x ^ turn for x, turn in zip(s, turns))) for s in settings_of((4,) * 3))


def twisted_net(rng, parts, threes=0.7):
    left, rows = list(range(parts)), []
    while len(left) > 1:
        read = rng.sample(left, min(len(left), 3 if rng.random() < threes else 2))
        rows.append((twisted_table(rng) if len(read) == 3 else flat(BITS if rng.random() < 0.7 else FOUR), tuple(read)))
        left = [wire for wire in left if wire not in read] + [parts + len(rows) - 1]
    return Net(4, parts, rows)


def group_net(rng, square, parts):
    """A net of one group in any order, and turned over here and there."""
    many = len(square)
    left, rows = [(part,) for part in range(parts)], []
    wires = {(part,): part for part in range(parts)}
    while len(left) > 1:
        at = rng.randrange(len(left) - 1)
        one, other = left[at], left[at + 1]
        if rng.random() < 0.5:
            rows.append((flat(square), (wires[one], wires[other])))
        else:
            rows.append((tuple(square[y][x] for x in range(many) for y in range(many)), (wires[other], wires[one])))
        wires[one + other] = parts + len(rows) - 1
        left[at:at + 2] = [one + other]
    return Net(many, parts, rows)


def nets(number, count=60):
    rng = seeded(number)
    for _, net in small_nets(number, count):
        yield rng, net
    for _ in range(count // 2):
        yield rng, twisted_net(rng, rng.randint(3, 5))
    for square in (SIX, SQUARE, BITS):
        yield rng, group_net(rng, square, 3)
    yield rng, group_net(rng, BITS, 5)
    yield rng, group_net(rng, SIX, 4)


def nonzero(no):
    u, v, w, x = no
    return sum(1 for one, other in zip(u + w, v + x) if one or other)


def unlike(one, other):
    return sum(1 for x, y in zip(one, other) if x != y)


class TestNoes(unittest.TestCase):
    def check_no(self, net, lot, no):
        u, v, w, x = no
        self.assertFalse(has_lists(no))
        self.assertLess(u, v)
        self.assertLessEqual(unlike(u, v), 2)
        self.assertEqual(unlike(w, x), 1)
        self.assertLessEqual(nonzero(no), 4)
        others = rest(net.parts, lot)
        marks = []
        for inside in (u, v):
            for outside in (w, x):
                contents = dict(zip(lot, inside)) | dict(zip(others, outside))
                marks.append(run(net, tuple(contents[part] for part in range(net.parts)))[-1])
        self.assertEqual((marks[0] == marks[2], marks[1] == marks[3]), (True, False))
        self.assertIs(net_no_holds(net=net, lot=list(lot), value=no), True)

    def test_all_lots_of_small_nets(self):
        counts = {}
        for _, net in nets(1):
            one_tests = looked_lots(net_board(net))
            for lot in lots_of(net.parts):
                no = net_no(net, lot)
                self.assertEqual(net_no(net=net, lot=list(lot)), no)
                self.assertIs(no is None, lot in one_tests)
                if no is not None:
                    self.check_no(net, lot, no)
                    counts[nonzero(no)] = counts.get(nonzero(no), 0) + 1
        # Now and then four parts are needed.
        self.assertTrue(counts[3] > 20 and counts[4] > 20)

    def test_noes_of_many_parts(self):
        started = time.time()
        rng = seeded(2)
        found = [great_net(rng, 4, 60, True), great_net(rng, 5, 60, True), great_net(rng, 8, 60, False), twisted_net(rng, 60),
                 twisted_net(rng, 60, 0.3), random_net(rng, 3, 60, 3), group_net(rng, SIX, 60)]
        count = 0
        for net in found:
            for _ in range(8):
                lot = tuple(sorted(rng.sample(range(60), rng.choice((2, 3, 5, 30, 58)))))
                no = net_no(net, lot)
                self.assertIs(no is None, net_tested(net, lot))
                if no is not None:
                    count += 1
                    self.check_no(net, lot, no)
            for lot in rng.sample(net_strong(net), 3):
                self.assertIsNone(net_no(net, lot))
        self.assertGreater(count, 30)
        self.assertLess(time.time() - started, 90)

    def test_any_noes_hold(self):
        answers = {True: 0, False: 0}
        for rng, net in nets(3, 20):
            if net.parts < 2 or net.many > 4:
                continue
            board = net_board(net)
            for lot in lots_of(net.parts):
                inner = settings_of((net.many,) * len(lot))
                outer = settings_of((net.many,) * (net.parts - len(lot)))
                for _ in range(30):
                    value = (rng.choice(inner), rng.choice(inner), rng.choice(outer), rng.choice(outer))
                    answer = no_holds(board, lot, value)
                    self.assertIs(net_no_holds(net, lot, value), answer)
                    answers[answer] += 1
        self.assertGreater(min(answers.values()), 50)

    def test_spoilt_noes(self):
        rng = seeded(4)
        for net, lot in ((great_net(rng, 4, 60, True), (3, 17, 40)), (twisted_net(rng, 5), (0, 1)), (twisted_net(rng, 40), (5, 6, 7, 8))):
            no = net_no(net, lot)
            while no is None:
                lot = tuple(sorted(rng.sample(range(net.parts), 2)))
                no = net_no(net, lot)
            u, v, w, x = no
            spoilt = [(v, u, w, x), (u, v, x, w), (u, u, w, x), (u, v, w, w), (u, v, w), no + (x,), list(no), as_lists(no), (list(u), v, w, x),
                      (u, v, w, list(x)), (u[:-1], v, w, x), (u, v + (0,), w, x), (u, v, w + (0,), x), (u, v, w, x[1:]), (w, x, u, v),
                      (u, v, w, x[:-1] + (net.many,)), (u, v, w[:-1] + (-1,), x), (u, v, w, x[:-1] + (bool(x[-1]),)), (None, v, w, x)]
            for value in spoilt:
                self.assertIs(net_no_holds(net, lot, value), False, value)
            for value in any_values():
                self.assertIs(net_no_holds(net, lot, value), False)
                self.assertIs(net_no_holds(net, lot, (value,) * 4), False)

    def test_lots_of_every_kind(self):
        net = Net(4, 3, [(odd_table(4, 3), (0, 1, 2))])
        calls = [lambda lot: net_no(net, lot), lambda lot: net_no_holds(net, lot, None), lambda lot: gathered_net(net, lot),
                 lambda lot: gathered_holds(net, lot, net)]
        for call in calls:
            for value in any_values():
                if not isinstance(value, (list, tuple)) or len(value) == 0:
                    told_error(self, InvalidLot, -1, call, value)
            for lot, at in (((3,), 0), ((0, 0), 1), ([2, 1], 1), ((True,), 0), ((0, 1, 2, 3), 3), ((0, None), 1)):
                told_error(self, InvalidLot, at, call, lot)


class TestGathered(unittest.TestCase):
    def test_all_lots_of_small_nets(self):
        found = {True: 0, False: 0}
        for rng, net in nets(5):
            board = net_board(net)
            one_tests = looked_lots(board)
            for lot in lots_of(net.parts):
                told = gathered_net(net, lot)
                found[told is None] += 1
                self.assertIs(told is None, lot not in one_tests)
                if told is not None:
                    self.assertIn(lot, net_lots(told))
                    self.assertEqual(net_board(told), board)
                    self.assertIs(gathered_holds(net, lot, told), True)
                    self.assertIs(gathered_holds(net=net, lot=list(lot), value=gathered_net(net=net, lot=list(lot))), True)
        self.assertGreater(min(found.values()), 100)

    def test_any_net_alike(self):
        for rng, net in nets(6, 20):
            lean = lean_net(net)
            for lot in lots_of(net.parts):
                self.assertIs(gathered_holds(net, lot, lean), lot in net_lots(lean))
                self.assertIs(gathered_holds(lean, lot, net), lot in net_lots(net))

    def test_spoilt_nets(self):
        rng = seeded(7)
        for net in (twisted_net(rng, 6), great_net(rng, 4, 40, True), group_net(rng, SIX, 20)):
            lot = net_strong(net)[-2]
            told = gathered_net(net, lot)
            row = list(range(net.many))
            row[0], row[1] = row[1], row[0]
            other_parts = Net(net.many, 1, [])
            spoilt = [led_net(told, lot[0], row), led_net(told, net.parts - 1, row), other_parts, net_form(net), as_lists(told.rows), told.rows, told.text()]
            for value in spoilt:
                self.assertIs(gathered_holds(net, lot, value), False)
            # Alike, but without the lot: lots that are not one-test are never there.
            for _ in range(10):
                pair = tuple(sorted(rng.sample(range(net.parts), 2)))
                if not net_tested(net, pair):
                    self.assertIs(gathered_holds(net, pair, told), False)
                    self.assertIsNone(gathered_net(net, pair))
        for value in any_values():
            self.assertIs(gathered_holds(net, lot, value), False)

    def test_stretches_of_lines_and_choices_of_free_knots(self):
        started = time.time()
        rng = seeded(8)
        for square in (SIX, SQUARE):
            net = group_net(rng, square, 60)
            for _ in range(8):
                one, other = sorted(rng.sample(range(61), 2))
                lot = tuple(range(one, other))
                self.assertIs(gathered_holds(net, lot, gathered_net(net, lot)), True)
        net = group_net(rng, BITS, 60)
        for _ in range(8):
            lot = tuple(sorted(rng.sample(range(60), rng.randint(1, 60))))
            self.assertIs(gathered_holds(net, lot, gathered_net(net, lot)), True)
        self.assertLess(time.time() - started, 60)

    def test_one_part(self):
        net = Net(5, 1, [((2, 1, 0, 4, 3), (0,))])
        self.assertIs(gathered_holds(net, (0,), gathered_net(net, (0,))), True)
        self.assertIsNone(net_no(net, (0,)))


if __name__ == "__main__":
    unittest.main()
