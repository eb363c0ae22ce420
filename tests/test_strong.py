"""[52], [53]: strong lots, forms and hulls of nets, against their boards."""

import itertools
import time
import unittest

from oncetested.boards import Board
from oncetested.errors import InvalidLot, Refused
from oncetested.forms import Form, board_form, form_shape
from oncetested.hulls import hull_of
from oncetested.moves import tidy_form
from oncetested.nets import Net, net_board, net_lots
from oncetested.readings import one_test
from oncetested.stays import stay_count
from oncetested.strong import form_net, look_board, net_form, net_hull, net_strong, net_tested, plain_net
from netting import random_net, run
from shaping import BITS, FOUR, SIX, inner_lots, kinds_of_boards, looked_lots, odd_mark
from support import any_values, has_lists, lots_of, seeded, settings_of, told_error


def odd_table(many, count):
    return tuple(odd_mark(setting) for setting in settings_of((many,) * count))


def flat(rows):
    return tuple(mark for row in rows for mark in row)


def small_nets(number, count=80):
    """Nets of few parts: any rows, groups, and rows of three wires that can't be split."""
    rng = seeded(number)
    for at in range(count):
        many = rng.choice((2, 3, 4, 4))
        parts = rng.randint(1, 5 if many < 4 else 4)
        if at % 2 or many < 4:
            yield rng, random_net(rng, many, parts)
        else:
            left, rows = list(range(parts)), []
            while len(left) > 1:
                read = rng.sample(left, min(len(left), rng.choice((2, 2, 3))))
                table = odd_table(4, 3) if len(read) == 3 else flat(rng.choice((BITS, FOUR)))
                rows.append((table, tuple(read)))
                left = [wire for wire in left if wire not in read] + [parts + len(rows) - 1]
            yield rng, Net(4, parts, rows)


def great_net(rng, many, parts, three):
    left, rows = list(range(parts)), []
    while len(left) > 1:
        read = rng.sample(left, min(len(left), rng.choice((2, 3)) if three else 2))
        if len(read) == 3:
            table = odd_table(4, 3) if many == 4 and rng.random() < 0.5 else tuple(sum(s) % many for s in settings_of((many,) * 3))
        else:
            row = rng.sample(range(many), many)
            table = flat(rng.choice((BITS, FOUR))) if many == 4 else tuple((x + y) % many for x in range(many) for y in row)
        rows.append((table, tuple(read)))
        left = [wire for wire in left if wire not in read] + [parts + len(rows) - 1]
    return Net(many, parts, rows)


class TestPlainNets(unittest.TestCase):
    def check_plain(self, net):
        for table, wires in net.rows:
            self.assertTrue(len(wires) > 1 or net.parts == 1)
            if len(wires) == 3:
                board = Board(net.many, (net.many,) * 3, table)
                for pair in ((0, 1), (0, 2), (1, 2)):
                    self.assertFalse(one_test(board, pair))

    def test_small_nets(self):
        threes = 0
        for _, net in small_nets(1):
            plain = plain_net(net=net)
            self.assertIsInstance(plain, Net)
            self.assertEqual(net_board(plain), net_board(net))
            self.check_plain(plain)
            threes += any(len(wires) == 3 for _, wires in plain.rows)
            # In a plain net each strong lot is the lot of a wire.
            self.assertTrue(set(net_strong(net)) <= set(net_lots(plain)))
        self.assertGreater(threes, 5)

    def test_each_pair_of_three_wires(self):
        for order in itertools.permutations(range(3)):
            # The first two of this order are one-test.
            table = [odd_mark((0, BITS[s[order[0]]][s[order[1]]], s[order[2]])) for s in settings_of((4,) * 3)]
            net = Net(4, 3, [(table, (2, 0, 1))])
            plain = plain_net(net)
            self.assertEqual([len(wires) for _, wires in plain.rows], [2, 2])
            self.assertEqual(net_board(plain), net_board(net))

    def test_great_nets(self):
        rng = seeded(2)
        for many, parts in ((4, 60), (5, 60), (2, 200)):
            net = random_net(rng, many, parts, 3)
            plain = plain_net(net)
            self.check_plain(plain)
            for _ in range(20):
                setting = tuple(rng.randrange(many) for _ in range(parts))
                self.assertEqual(plain(setting), run(net, setting)[-1])


class TestStrongLots(unittest.TestCase):
    def test_by_all_settings(self):
        for _, net in small_nets(3):
            lots = looked_lots(net_board(net))
            crossed = {one for one in lots for other in lots
                       if set(one) & set(other) and set(one) - set(other) and set(other) - set(one)}
            told = tuple(sorted((lot for lot in lots if lot not in crossed), key=lambda lot: (len(lot), lot)))
            self.assertEqual(net_strong(net), told)
            self.assertEqual(net_strong(net=net), told)

    def test_look_boards(self):
        seen = set()
        for rng, net in small_nets(4, 160):
            plain = plain_net(net)
            lots, strong = net_lots(plain), net_strong(plain)
            readers = {wire: wires for _, wires in plain.rows for wire in wires}
            for wire in range(len(lots)):
                row = plain.rows[wire - plain.parts] if wire >= plain.parts else None
                if row is not None and len(row[1]) == 2 and len(readers.get(wire, ())) == 2:
                    board = look_board(net=plain, wire=wire)
                    self.assertEqual(board.sizes, (net.many,) * 3)
                    self.check_look(rng, plain, wire, readers[wire], board)
                    self.assertIs(lots[wire] in strong, not one_test(board, (0, 2)) and not one_test(board, (1, 2)))
                    seen.add(lots[wire] in strong)
                else:
                    told_error(self, Refused, wire, look_board, plain, wire)
                    self.assertIn(lots[wire], strong)
        self.assertEqual(seen, {True, False})

    def check_look(self, rng, net, wire, wires, board):
        left, right = net.rows[wire - net.parts][1]
        beside = wires[1] if wires[0] == wire else wires[0]
        above = [net.parts + number for number, (_, read) in enumerate(net.rows) if read == wires][0]
        for _ in range(20):
            marks = run(net, tuple(rng.randrange(net.many) for _ in range(net.parts)))
            self.assertEqual(board((marks[left], marks[right], marks[beside])), marks[above])

    def test_no_look_board(self):
        net = Net(4, 5, [(flat(BITS), (0, 1)), (odd_table(4, 3), (5, 2, 3)), ((1, 0, 2, 3), (6,)), (flat(FOUR), (7, 4))])
        for wire in (0, 2, 4, 5, 6, 7, 8, 9, -1, 10 ** 30):
            told_error(self, Refused, wire, look_board, net, wire)
        for value in any_values():
            if type(value) is not int:
                told_error(self, Refused, value, look_board, net, value)
        one = Net(4, 3, [(flat(BITS), (0, 1)), (flat(BITS), (2, 3))])
        self.assertEqual(look_board(one, 3), Board(4, (4,) * 3, [x ^ y ^ z for x, y, z in settings_of((4,) * 3)]))

    def test_example(self):
        both = [a ^ b for a in range(4) for b in range(4)]
        apart = [(a - b) & 3 for a in range(4) for b in range(4)]
        net = Net(4, 4, [(both, (0, 1)), (both, (4, 2)), (apart, (5, 3))])
        self.assertEqual((net((1, 2, 2, 3)), net_strong(net)), (2, ((0,), (1,), (2,), (3,), (0, 1, 2), (0, 1, 2, 3))))
        self.assertEqual((net_tested(net, (0, 2)), stay_count(net, (0, 2), (0, 1), (1, 0)), stay_count(net, (0, 3), (0, 1), (1, 2))),
                         (True, 16, 8))


class TestForms(unittest.TestCase):
    def test_net_forms(self):
        for _, net in small_nets(5):
            self.assertEqual(net_form(net=net), board_form(net_board(net)))

    def test_form_nets(self):
        rng = seeded(6)
        found = [board for board, _ in kinds_of_boards(rng)] + [net_board(net) for _, net in small_nets(7, 40)]
        refused = 0
        for board in found:
            form = board_form(board)
            wide = [number for number, (kind, wires, _) in enumerate(form.knots) if kind == "bare" and len(wires) > 3]
            if wide:
                refused += 1
                told_error(self, Refused, wide[0], form_net, form)
            else:
                net = form_net(form=form)
                self.assertIsInstance(net, Net)
                self.assertEqual(net_form(net), form)
                if len(board) < 6:
                    self.assertEqual(net_board(net), board)
        self.assertGreater(refused, 0)

    def test_the_first_bare_knot_that_is_too_great(self):
        rows = [((0, 1), flat(BITS)), ((10, 2), flat(BITS)), ((3, 4, 5, 6), odd_table(4, 4)),
                ((7, 8, 9, 12), odd_table(4, 4)), ((11, 13), flat(FOUR))]
        form = tidy_form(4, [[0, 1, 2, 3]] * 10, rows)
        self.assertEqual([(kind, len(wires)) for kind, wires, _ in form.knots], [("free", 3), ("bare", 4), ("bare", 4), ("bare", 2)])
        told_error(self, Refused, 1, form_net, form)
        told_error(self, Refused, 0, form_net, tidy_form(4, [[0, 1, 2, 3]] * 4, [((0, 1, 2, 3), odd_table(4, 4))]))

    def test_one_part(self):
        net = Net(5, 1, [((2, 1, 0, 4, 3), (0,))])
        self.assertEqual(net_form(net), Form(5, ((2, 1, 0, 4, 3),), ()))
        self.assertEqual(net_form(form_net(net_form(net))), net_form(net))
        self.assertEqual(net_form(Net(3, 1, [])), Form(3, ((0, 1, 2),), ()))
        self.assertEqual(net_strong(net), ((0,),))
        self.assertEqual((net_tested(net, (0,)), net_hull(net, [0])), (True, (0,)))

    def test_200_parts(self):
        rng = seeded(8)
        names = [[0] + rng.sample(range(1, 6), 5) for _ in range(200)]
        line = Form(6, names, [("line", list(range(200)), SIX)])
        self.assertEqual(net_form(form_net(line)), line)


class TestLots(unittest.TestCase):
    def test_by_all_settings(self):
        for _, net in small_nets(9):
            board = net_board(net)
            one_tests = looked_lots(board)
            for lot in lots_of(net.parts):
                self.assertIs(net_tested(net, lot), lot in one_tests)
                self.assertIs(net_tested(net=net, lot=list(lot)), lot in one_tests)
                self.assertEqual(net_hull(net, lot), hull_of(board, lot))
                self.assertEqual(net_hull(net=net, lot=list(lot)), hull_of(board, lot))

    def test_lots_of_every_kind(self):
        net = Net(4, 3, [(odd_table(4, 3), (0, 1, 2))])
        for call in (net_tested, net_hull):
            for value in any_values():
                if not isinstance(value, (list, tuple)) or len(value) == 0:
                    told_error(self, InvalidLot, -1, call, net, value)
            for lot, at in (((3,), 0), ((0, 0), 1), ([2, 1], 1), ((True,), 0), ((0, 1, 2, 3), 3), ((0, None), 1)):
                told_error(self, InvalidLot, at, call, net, lot)

    def test_60_parts(self):
        started = time.time()
        rng = seeded(10)
        for many, three in ((4, True), (5, True), (3, True), (8, False), (2, True)):
            net = great_net(rng, many, 60, three)
            strong = net_strong(net)
            self.assertFalse(has_lists(strong))
            shape = form_shape(net_form(net))
            self.assertEqual(sorted(strong), sorted({lot for lot in strong}))
            self.assertEqual([lot for lot in strong if len(lot) == 1], [(part,) for part in range(60)])
            self.assertIn(tuple(range(60)), strong)
            for lot in rng.sample(strong, 10):
                self.assertTrue(net_tested(net, lot))
                self.assertEqual(net_hull(net, lot), lot)
            for _ in range(10):
                lot = tuple(sorted(rng.sample(range(60), 2)))
                hull = net_hull(net, lot)
                self.assertTrue(set(lot) <= set(hull))
                self.assertTrue(net_tested(net, hull))
                self.assertIs(net_tested(net, lot), hull == lot)
            if len(shape[1]) < 10:
                self.assertTrue(set(strong) <= set(inner_lots(shape)))
        self.assertLess(time.time() - started, 60)


if __name__ == "__main__":
    unittest.main()
