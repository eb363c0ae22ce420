"""[48], [49]: nets, their texts, and nets made of other nets."""

import itertools
import unittest

from oncetested.boards import Board
from oncetested.errors import InvalidNet, InvalidSetting, InvalidSize, InvalidText, Refused
from oncetested.nets import Net, held_net, lean_net, led_net, net_board, net_lots, net_marks, put_net, turned_net
from oncetested.putting import held_board, led_board, put_board, turned_board
from netting import random_net, run
from support import any_values, as_lists, has_lists, seeded, settings_of, told_error

BOTH = [a ^ b for a in range(4) for b in range(4)]
APART = [(a - b) & 3 for a in range(4) for b in range(4)]
XOR = (0, 1, 1, 0)
IDLE = (0, 1)


def chain(parts, extra=0):
    """A net of two marks that joins the parts one after another, behind rows of one wire."""
    rows = [(IDLE, (part,)) for part in range(extra)]
    heads = [part if part >= extra else parts + part for part in range(parts)]
    last = heads[0]
    for head in heads[1:]:
        rows.append((XOR, (last, head)))
        last = parts + len(rows) - 1
    return Net(2, parts, rows)


class TestNet(unittest.TestCase):
    def test_example(self):
        net = Net(4, 4, [(BOTH, (0, 1)), (BOTH, (4, 2)), (APART, (5, 3))])
        self.assertEqual(net((1, 2, 2, 3)), 2)
        self.assertEqual(net.text().split("\n")[1], "0 1: 0123 1032 2301 3210")

    def test_attributes(self):
        rows = [(list(XOR), [0, 1]), [(1, 0), (2,)]]
        net = Net(2, 2, [rows[0], tuple(rows[1])])
        rows[0][0][0] = 7
        self.assertEqual((net.many, net.parts, net.rows), (2, 2, ((XOR, (0, 1)), ((1, 0), (2,)))))
        self.assertFalse(has_lists(net.rows))
        self.assertEqual((len(net), len(Net(rows=(), parts=1, many=5))), (2, 1))
        with self.assertRaises(TypeError):
            iter(net)

    def test_equality(self):
        net = Net(2, 2, [(XOR, (0, 1))])
        self.assertTrue(net == Net(2, 2, ((list(XOR), [0, 1]),)))
        for other in (Net(2, 2, [(XOR, (1, 0))]), Net(2, 2, [((1, 0, 0, 1), (0, 1))]), Net(2, 1, ()), Net(3, 1, ()), net.text(), None, 2,
                      Board(2, (2, 2), XOR)):
            self.assertFalse(net == other)
            self.assertTrue(net != other)
        self.assertFalse(Net(2, 1, ()) == Net(3, 1, ()))
        self.assertFalse(Board(2, (2, 2), XOR) == net)

    def test_numbers(self):
        for value in any_values() + [201, 0, 400]:
            if not (type(value) is int and 2 <= value <= 8):
                told_error(self, InvalidNet, "many", Net, value, value, None)
            if not (type(value) is int and 1 <= value <= 200):
                told_error(self, InvalidNet, "parts", Net, 2, value, None)
            if not isinstance(value, (list, tuple)):
                told_error(self, InvalidNet, ("rows", -1), Net, 2, 2, value)
        self.assertEqual(len(Net(8, 1, []).rows), 0)

    def test_too_many_rows(self):
        rows = [(IDLE, (number,)) for number in range(400)]
        net = Net(2, 1, rows)
        self.assertEqual((net([1]), len(net.rows)), (1, 400))
        told_error(self, InvalidNet, ("rows", -1), Net, 2, 1, rows + [(IDLE, (400,))])
        told_error(self, InvalidNet, ("rows", -1), Net, 2, 1, [None] * 401)

    def test_rows(self):
        right = (XOR, (0, 1))
        wrong = [[XOR, (0, 1)], (XOR,), (XOR, (0, 1), ()), (XOR, ()), (XOR, (0, 0)), (XOR, (0, 3)), (XOR, (0, 4)), (XOR, (-1, 0)),
                 (XOR, (0, True)), (XOR, (False, 1)), (XOR, 0), (XOR, None), (XOR, "01"), (None, (0, 1)), ("0110", (0, 1)), ((0, 1), (0, 1)),
                 (XOR + (0,), (0, 1)), ((0, 1, 1, 2), (0, 1)), ((0, 1, 1, False), (0, 1)), ((0, 0, 1, 1), (0, 1)), ((0, 1, 0, 1), (0, 1)),
                 ((0, 0, 0, 0), (0, 1)), ((0, 0), (0,)), ((0, 1), (9,)), (XOR * 4, (0, 1, 2, 3)), ((0, 1, 1, -1), (0, 1)), (XOR, (0, (1,)))]
        for value in wrong + [value for value in any_values()]:
            told_error(self, InvalidNet, ("rows", 0), Net, 2, 3, [value, None])
            told_error(self, InvalidNet, ("rows", 1), Net, 2, 5, [(XOR, (3, 4)), value, None])
        told_error(self, InvalidNet, ("rows", 1), Net, 2, 3, [right, (XOR, (1, 2))])
        told_error(self, InvalidNet, ("rows", 1), Net, 2, 3, [right, (IDLE, (0,)), None])
        told_error(self, InvalidNet, ("rows", 1), Net, 2, 3, [right, (XOR, (2, 4))])
        self.assertEqual(len(Net(2, 3, [right, (XOR, (3, 2))]).rows), 2)
        self.assertEqual(len(Net(2, 3, [right, (XOR, (2, 3))]).rows), 2)
        three = [(x + y + z) % 3 for x, y, z in settings_of((3, 3, 3))]
        self.assertEqual(Net(3, 3, [(three, (2, 0, 1))])((1, 2, 2)), 2)
        spoilt = list(three)
        spoilt[26] = 1
        told_error(self, InvalidNet, ("rows", 0), Net, 3, 3, [(spoilt, (2, 0, 1))])

    def test_numbers_of_wires(self):
        four = [sum(setting) % 2 for setting in settings_of((2, 2, 2, 2))]
        told_error(self, InvalidNet, ("rows", 0), Net, 2, 4, [(four, (0, 1, 2, 3))])
        told_error(self, InvalidNet, ("rows", 0), Net, 2, 1, [((0,), ())])
        told_error(self, InvalidNet, ("rows", 0), Net, 2, 1, [((0,), []), (IDLE, (0,))])

    def test_a_table_that_fails_in_one_place(self):
        for table in ((0, 1, 2, 1, 2, 1, 2, 0, 0), (0, 1, 2, 1, 2, 0, 2, 0, 2), (0, 1, 2, 1, 0, 2, 2, 1, 0)):
            told_error(self, InvalidNet, ("rows", 0), Net, 3, 2, [(table, (0, 1))])
            turned = [table[3 * y + x] for x in range(3) for y in range(3)]
            told_error(self, InvalidNet, ("rows", 0), Net, 3, 2, [(turned, (0, 1))])
        self.assertEqual(len(Net(3, 2, [((0, 1, 2, 1, 2, 0, 2, 0, 1), (0, 1))])), 2)

    def test_a_table_that_fails_for_one_wire(self):
        for step in range(3):
            table = [setting[step] for setting in settings_of((2, 2, 2))]
            told_error(self, InvalidNet, ("rows", 0), Net, 2, 3, [(table, (0, 1, 2))])
        for left_out in range(3):
            table = [(sum(setting) - setting[left_out]) % 2 for setting in settings_of((2, 2, 2))]
            told_error(self, InvalidNet, ("rows", 0), Net, 2, 3, [(table, (0, 1, 2))])

    def test_unread_wires(self):
        told_error(self, InvalidNet, -1, Net, 2, 2, [])
        told_error(self, InvalidNet, -1, Net, 2, 3, [(XOR, (0, 1))])
        told_error(self, InvalidNet, -1, Net, 2, 4, [(XOR, (0, 1)), (XOR, (2, 3))])
        told_error(self, InvalidNet, -1, Net, 2, 200, ())
        told_error(self, InvalidNet, -1, Net, 2, 2, [(IDLE, (0,))])

    def test_settings(self):
        net = Net(4, 2, [(APART, (1, 0))])
        for setting in settings_of((4, 4)):
            self.assertEqual(net(setting), (setting[1] - setting[0]) % 4)
        self.assertEqual((net([3, 1]), net(setting=(3, 1))), (2, 2))
        for value, at in ((None, -1), ((0,), -1), ([0, 0, 0], -1), ("00", -1), ((4, 0), 0), ((0, -1), 1), ((0, True), 1), (["0", 9], 0)):
            told_error(self, InvalidSetting, at, net, value)
        for value in any_values():
            try:
                self.assertIn(net(value), range(4))
            except InvalidSetting:
                pass
        self.assertEqual(Net(3, 1, ())((2,)), 2)


class TestText(unittest.TestCase):
    def test_there_and_back(self):
        rng = seeded(1)
        for _ in range(60):
            net = random_net(rng, rng.randint(2, 4), rng.randint(1, 6))
            self.assertEqual(Net.read(net.text()), net)
            self.assertEqual(Net.read(text=net.text()).text(), net.text())
        self.assertEqual(Net(7, 1, ()).text(), "net 7 1")
        self.assertEqual(Net(2, 1, [((1, 0), (0,))]).text(), "net 2 1\n0: 10")
        self.assertEqual(Net(2, 2, [(XOR, (1, 0)), ((1, 0), (2,))]).text(), "net 2 2\n1 0: 01 10\n2: 10")
        self.assertEqual(Net.read(chain(200).text()), chain(200))

    def test_no_string(self):
        for value in any_values():
            told_error(self, InvalidText, 0 if isinstance(value, str) else -1, Net.read, value)

    def test_row_0(self):
        for row in ("", "net", "net 2", "net 2 ", "net 1 2", "net 9 2", "net 02 2", "net 2 02", "net 2 0", "net 2 201", "net 2 1000",
                    "net 2  2", " net 2 2", "net 2 2 ", "Net 2 2", "net x 2", "net 2 -2", "net 2 2 2", "net\t2 2", "net 2 2\r", "10 2 2"):
            told_error(self, InvalidText, 0, Net.read, row + "\n0 1: 01 10")
            told_error(self, InvalidText, 0, Net.read, row + "\nx")

    def test_each_row_spoilt(self):
        rows = ["net 2 4", "0 1: 01 10", "4 2: 10 01", "3: 10", "5 6: 01 10"]
        self.assertEqual(Net.read("\n".join(rows)).text(), "\n".join(rows))
        for at in range(1, 5):
            for row in ("", ":", "0 1:", "0 1: ", "0 1", "0 1:01 10", "0 1: 01  10", "0 1: 01 10 ", " 0 1: 01 10", "0 1 : 01 10", "0  1: 01 10",
                        "00 1: 01 10", "0 01: 01 10", "0 1000: 01 10", "-1 0: 01 10", "0 1 2 3: 01 10", ": 01 10", "0 1: 0110", "0 1: 01 1",
                        "0 1: 01 1x", "0 1: 01 10: 01", "0,1: 01 10", "0 1: 01 10\r", "0 x: 01 10", "0 1; 01 10", "0 1: -1 10"):
                told_error(self, InvalidText, at, Net.read, "\n".join(rows[:at] + [row] + rows[at + 1:]))
                told_error(self, InvalidText, at, Net.read, "\n".join(rows[:at] + [row, "x"]))
        told_error(self, InvalidText, 5, Net.read, "\n".join(rows) + "\n")
        told_error(self, InvalidText, 1, Net.read, "net 2 1\n")

    def test_then_the_net(self):
        for text, at in (("net 2 2", -1), ("net 2 2\n0 1: 01 12", ("rows", 0)), ("net 2 2\n0 1: 01", ("rows", 0)),
                         ("net 2 2\n0 1: 01 10 01", ("rows", 0)), ("net 2 2\n0 0: 01 10", ("rows", 0)), ("net 2 2\n0 999: 01 10", ("rows", 0)),
                         ("net 2 3\n0 1: 01 10", -1), ("net 2 3\n0 1: 01 10\n1 2: 01 10", ("rows", 1)), ("net 3 1\n0: 998", ("rows", 0))):
            told_error(self, InvalidNet, at, Net.read, text)
        told_error(self, InvalidText, 2, Net.read, "net 2 2\n0 1: 99 99\nx")


class TestWires(unittest.TestCase):
    def test_marks_and_lots(self):
        rng = seeded(2)
        for _ in range(40):
            net = random_net(rng, rng.randint(2, 4), rng.randint(1, 7))
            lots = [{part} for part in range(net.parts)]
            for _, wires in net.rows:
                lots.append(set().union(*[lots[wire] for wire in wires]))
            self.assertEqual(net_lots(net), tuple(tuple(sorted(lot)) for lot in lots))
            self.assertEqual(net_lots(net=net)[-1], tuple(range(net.parts)))
            for _ in range(10):
                setting = tuple(rng.randrange(net.many) for _ in range(net.parts))
                self.assertEqual(net_marks(net, setting), run(net, setting))
                self.assertEqual(net_marks(net=net, setting=list(setting))[-1], net(setting))

    def test_boards(self):
        rng = seeded(3)
        for _ in range(30):
            net = random_net(rng, rng.randint(2, 4), rng.randint(1, 4))
            board = net_board(net)
            self.assertEqual((board.many, board.sizes), (net.many, (net.many,) * net.parts))
            self.assertEqual(board.marks, tuple(run(net, setting)[-1] for setting in settings_of(board.sizes)))
            self.assertEqual(net_board(net=net), board)
        self.assertEqual(len(net_board(chain(8)).marks), 256)
        for net in (chain(9), chain(200), random_net(rng, 4, 8), random_net(rng, 8, 5)):
            told_error(self, InvalidSize, "settings", net_board, net)
        self.assertEqual(len(net_board(random_net(rng, 3, 8)).marks), 6561)


class TestMadeNets(unittest.TestCase):
    def nets(self, number, count=60):
        rng = seeded(number)
        for _ in range(count):
            net = random_net(rng, rng.randint(2, 4), rng.randint(1, 4), single=rng.choice((0, 0.3, 0.6)))
            yield rng, net, net_board(net)

    def test_put(self):
        for rng, outer, board in self.nets(4):
            inner = random_net(rng, outer.many, rng.randint(1, 3))
            part = rng.randrange(outer.parts)
            put = put_net(outer, part, inner)
            if put.parts <= 5:
                self.assertEqual(net_board(put), put_board(board, part, net_board(inner)))
            self.assertEqual(put_net(outer=outer, part=part, inner=inner), put)
            self.assertEqual(len(put), outer.parts - 1 + inner.parts)

    def test_put_refusals(self):
        two, three = chain(150), Net(3, 1, ())
        told_error(self, Refused, 7, put_net, two, 7, three)
        told_error(self, InvalidSize, "parts", put_net, two, 0, chain(52))
        put = put_net(two, 149, chain(51))
        self.assertEqual((len(put), put((1,) + (0,) * 199), put((1,) * 200)), (200, 1, 0))
        told_error(self, Refused, 199, put_net, chain(200), 199, three)

    def test_put_nets_of_many_rows_of_one_wire(self):
        rows = [((1, 0), (number,)) for number in range(399)]
        turned = Net(2, 1, rows)
        put = put_net(turned, 0, turned)
        self.assertEqual((put((0,)), put((1,))), (0, 1))
        wide = chain(100, 100)
        put = put_net(wide, 50, chain(101, 101))
        self.assertEqual((len(put), put((1,) * 200), put((0,) * 199 + (1,))), (200, 0, 1))
        put = put_net(turned, 0, chain(101, 101))
        self.assertEqual(put((1,) * 101), 0)

    def test_held(self):
        for rng, net, board in self.nets(5):
            for part in range(net.parts):
                content = rng.randrange(net.many)
                if net.parts == 1:
                    told_error(self, Refused, 0, held_net, net, 0, content)
                else:
                    held = held_net(net=net, part=part, content=content)
                    self.assertEqual(net_board(held), held_board(board, part, content))
        held = held_net(chain(200, 100), 3, 1)
        self.assertEqual((len(held), held((0,) * 199), held((1,) * 199)), (199, 1, 0))

    def test_led(self):
        for rng, net, board in self.nets(6):
            row = rng.sample(range(net.many), net.many)
            part = rng.randrange(net.parts)
            led = led_net(net, part, row)
            self.assertEqual(net_board(led), led_board(board, part, row))
            self.assertEqual(led_net(net=net, part=part, row=tuple(row)), led)
        many = Net(2, 1, [(IDLE, (number,)) for number in range(400)])
        self.assertEqual(led_net(many, 0, (1, 0))((0,)), 1)
        self.assertEqual(led_net(chain(200, 200), 199, (1, 0))((0,) * 200), 1)

    def test_turned(self):
        for rng, net, board in self.nets(7):
            order = rng.sample(range(net.parts), net.parts)
            turned = turned_net(net, order)
            self.assertEqual(net_board(turned), turned_board(board, order))
            self.assertEqual(turned_net(net=net, order=tuple(order)), turned)

    def test_lean(self):
        for _, net, board in self.nets(8, 100):
            lean = lean_net(net=net)
            self.assertEqual(net_board(lean), board)
            single = [row for row in lean.rows if len(row[1]) == 1]
            self.assertTrue(len(lean.rows) <= 1 if net.parts == 1 else not single)
        lean = lean_net(chain(200, 200))
        self.assertEqual((len(lean.rows), lean((1,) * 199 + (0,))), (199, 1))
        self.assertEqual(lean_net(chain(200)), chain(200))

    def test_one_part_alone(self):
        for row in itertools.permutations(range(3)):
            net = Net(3, 1, [(row, (0,)), ((1, 2, 0), (1,))])
            self.assertEqual([lean_net(net)((content,)) for content in range(3)], [(row[content] + 1) % 3 for content in range(3)])
            self.assertLessEqual(len(lean_net(net).rows), 1)

    def test_eight_marks(self):
        rng = seeded(9)
        net = random_net(rng, 8, 40, most=3)
        setting = [rng.randrange(8) for _ in range(40)]
        row = rng.sample(range(8), 8)
        self.assertEqual(led_net(net, 11, row)(setting[:11] + [row.index(setting[11])] + setting[12:]), net(setting))
        self.assertEqual(held_net(net, 11, setting[11])(setting[:11] + setting[12:]), net(setting))
        self.assertEqual(lean_net(net)(setting), net(setting))
        self.assertEqual(turned_net(net, list(range(39, -1, -1)))(setting[::-1]), net(setting))
        self.assertEqual(Net(8, 40, as_lists_within(net.rows)), net)


def as_lists_within(rows):
    return [(as_lists(table), as_lists(wires)) for table, wires in rows]


if __name__ == "__main__":
    unittest.main()
