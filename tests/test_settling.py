"""[94]: sheets that settle questions, each kind or its contrary, and the errors of what is asked."""

import time
import unittest

from oncetested.boards import Board
from oncetested.checker import sheet_holds
from oncetested.errors import InvalidLot, InvalidSetting, InvalidSize, InvalidTable, InvalidTests, NoName, Refused
from oncetested.groups import Group
from oncetested.nets import Net
from oncetested.pairs import Pairs
from oncetested.settling import contrary_kind, settled_sheet
from oncetested.sums import Sums
from oncetested.told import Told
from sheeting import FORM, LONE, NOT_FAIR, ODD, SIXES, SUM, TWO, cases_of, flat, odd_net, paired_questions
from shaping import BITS
from support import any_values, as_lists, cycle_rows, fair_board, has_lists, latin, seeded, settings_of, table_board, told_error
from test_checker import PAIRED


class TestKinds(unittest.TestCase):
    def test_contrary_kinds(self):
        for one, other in PAIRED:
            self.assertEqual((contrary_kind(one), contrary_kind(kind=other)), (other, one))

    def test_words_that_stand_in_no_row(self):
        for value in any_values() + ["hull", "renamed", "parted", "mover", "road", "One-test", "sure ", "sure pairs", "none", SUM]:
            for call in (contrary_kind, lambda kind: settled_sheet(kind, None)):
                with self.assertRaises(NoName) as caught:
                    call(value)
                self.assertIs(caught.exception.name, value)
        with self.assertRaises(NoName):
            settled_sheet("mover", (SUM, 1))


class TestSheets(unittest.TestCase):
    def test_a_sheet_for_each_question(self):
        found = {}
        for kind, question in paired_questions():
            sheet = settled_sheet(kind=kind, question=question)
            found[sheet[0]] = found.get(sheet[0], 0) + 1
            self.assertIsInstance(sheet, tuple)
            self.assertEqual(len(sheet), 3)
            self.assertIn(sheet[0], (kind, contrary_kind(kind)))
            self.assertEqual(sheet[1], as_tuples(question))
            self.assertFalse(has_lists(sheet))
            self.assertIs(sheet_holds(*sheet), True, sheet)
            self.assertIs(sheet_holds(contrary_kind(sheet[0]), sheet[1], sheet[2]), False)
        for pair in PAIRED:
            for kind in pair:
                self.assertGreater(found[kind], 1, kind)

    def test_asked_for_the_contrary(self):
        for kind, question in paired_questions()[::3]:
            sheet, other = settled_sheet(kind, question), settled_sheet(contrary_kind(kind), question)
            self.assertEqual((other[0], other[1]), (sheet[0], sheet[1]))
            self.assertIs(sheet_holds(*other), True)

    def test_lists_within_questions(self):
        for kind, question in paired_questions()[::3]:
            sheet = settled_sheet(kind, question)
            other = settled_sheet(kind, tuple(as_lists(part) for part in question))
            self.assertEqual(other[:2], sheet[:2])
            self.assertFalse(has_lists(other))
            self.assertIs(sheet_holds(*other), True)

    def test_marks_that_are_sure_or_not(self):
        pairs, told, sums = cases_of()
        mark = pairs[0].sure_mark(0, 1)
        self.assertEqual(settled_sheet("sure", (pairs[0], 0, 1, mark))[0], "sure")
        self.assertEqual(settled_sheet("sure", (pairs[0], 0, 1, (mark + 1) % 6))[0], "can be other")
        for mark in range(6):
            self.assertEqual(settled_sheet("sure", (pairs[0], 2, 2, mark))[0], "can be other")
        self.assertEqual([settled_sheet("can be other", (told[0], (1, 1), mark))[0] for mark in range(3)], ["sure", "can be other", "can be other"])
        self.assertEqual([settled_sheet("can be other", (sums[1], (0, 1), mark))[0] for mark in range(3)], ["can be other"] * 3)
        self.assertEqual([settled_sheet("sure", (sums[0], (1, 1), mark))[0] for mark in range(3)], ["can be other", "sure", "can be other"])


def as_tuples(value):
    if isinstance(value, (list, tuple)):
        return tuple(as_tuples(part) for part in value)
    return value


class TestErrors(unittest.TestCase):
    def both(self, kind, question, error, at):
        for each in (kind, contrary_kind(kind)):
            told_error(self, error, at, settled_sheet, each, question)

    def test_lots_in_order(self):
        tries_many = Board(2, (2,) * 8, [sum(s) * sum(s) // 3 % 2 for s in settings_of((2,) * 8)])
        for lot, at in (((3,), 0), ((0, 0), 1), ((), -1), (None, -1), ((True,), 0), ((1, 0), 1)):
            self.both("one-test", (ODD, lot), InvalidLot, at)
            self.both("net one-test", (Net(4, 3, [(flat(BITS), (0, 1)), (flat(BITS), (2, 3))]), lot), InvalidLot, at)
            self.both("settled", (ODD, lot, None), InvalidLot, at)
            self.both("enough", (ODD, lot, 1), InvalidLot, at)
            self.both("renewal", (ODD, lot, None, None), InvalidLot, at)
        self.both("settled", (tries_many, (0,), None), InvalidSize, "tries")
        self.both("enough", (tries_many, (0,), 3), InvalidSize, "tries")
        for tries, at in ((None, -1), (0, -1), (((0,), (4,)), 1), (((0, 0),), 0), (("a",), 0)):
            self.both("settled", (ODD, (0, 1), tries), InvalidTests, at)

    def test_blocks_in_order(self):
        self.both("one block", (SUM, None, None), Refused, 4)
        for one, other in ((3, 0), (0, 3), (None, 0), (0, True), (-1, 0), (3, 3)):
            self.both("one block", (TWO, one, other), InvalidLot, 0)

    def test_renewals_in_order(self):
        self.both("renewal", (NOT_FAIR, None, None, None), Refused, ("twice", 1, (0, 0), 1))
        self.both("renewal", (ODD, (0, 1), (0, 4), None), InvalidSetting, "u")
        self.both("renewal", (ODD, (0, 1), (0, 0), (0,)), InvalidSetting, "v")

    def test_squares(self):
        for rows, at in ((0, ()), ((), ()), (((0, 1), (0, 1)), (1, 0)), (((0, 0), (1, 1)), (0, 1))):
            self.both("group", (rows,), InvalidTable, at)

    def test_lots_that_need_not_follow(self):
        free = tuple((at, at + 1) for at in range(0, 7, 2))
        self.both("follows", (8, (), (0, 1)), InvalidSize, "settings")
        self.both("follows", (8, free, (0, 2)), InvalidSize, "settings")
        self.both("follows", (5, ((0, 1), (1, 2)), (0, 2)), InvalidSize, "settings")
        # What follows needs no board.
        self.assertEqual(settled_sheet("need not follow", (8, free, (0, 1)))[0], "follows")
        self.assertEqual(settled_sheet("need not follow", (5, ((0, 1), (1, 2)), (0, 1, 2)))[0], "follows")
        self.assertEqual(settled_sheet("follows", (4, ((0, 1), (1, 2)), (0, 2)))[0], "need not follow")
        self.assertEqual(settled_sheet("follows", (7, ((0, 1),), (0, 2)))[0], "need not follow")

    def test_marks_in_order(self):
        pairs, told, sums = cases_of()
        for a, b, mark, error, at in ((3, None, None, InvalidSetting, 0), (None, 3, 9, InvalidSetting, 0), (0, 2, None, InvalidSetting, 1),
                                      (0, -1, 9, InvalidSetting, 1), (0, 0, 6, InvalidSize, "mark"), (1, 1, None, InvalidSize, "mark")):
            self.both("sure", (pairs[3], a, b, mark), error, at)
        for mark in range(6):
            self.both("sure", (pairs[3], 0, 0, mark), Refused, -1)
        for setting, at in ((None, -1), ((0,), -1), ((0, 3), 1), ((True, 0), 0)):
            self.both("sure", (told[2], setting, 0), InvalidSetting, at)
            self.both("sure", (sums[4], setting, 0), InvalidSetting, at)
        self.both("sure", (told[2], (0, 1), 0), Refused, -1)
        self.both("sure", (sums[4], (0, 1), 0), Refused, -1)
        # Whether anything fits at all is always settled.
        for each, kind in ((pairs[3], "clash"), (told[2], "clash"), (sums[4], "clash"), (pairs[0], "fits"), (told[0], "fits"), (sums[0], "fits")):
            self.assertEqual(settled_sheet("fits", (each,))[0], kind)


class TestLimits(unittest.TestCase):
    def test_boards_of_512_settings(self):
        started = time.time()
        rng = seeded(3)
        line = table_board(8, 3, lambda x, y, z: x ^ y ^ z)
        any_fair = fair_board(rng, 5, 3)
        for board in (line, any_fair, fair_board(rng, 4, 4)):
            for lot in ((0,), (1, 2), (0, 2)):
                for kind, question in (("one-test", (board, lot)), ("renewal", (board, lot, (0,) * len(lot), (1,) * len(lot)))):
                    self.assertIs(sheet_holds(*settled_sheet(kind, question)), True)
        for board, lot in ((fair_board(rng, 5, 3), (0, 1)), (fair_board(rng, 8, 2), (0,)), (fair_board(rng, 4, 3), (1,))):
            for number in (0, 1, 3):
                self.assertIs(sheet_holds(*settled_sheet("enough", (board, lot, number))), True)
            self.assertIs(sheet_holds(*settled_sheet("settled", (board, lot, ()))), True)
        for rows in (latin(rng, 6), cycle_rows(12)):
            self.assertIs(sheet_holds(*settled_sheet("group", (rows,))), True)
        self.assertIs(sheet_holds(*settled_sheet("net one-test", (odd_net(), (0, 1, 3)))), True)
        self.assertLess(time.time() - started, 60)

    def test_told_cases(self):
        started = time.time()
        rng = seeded(4)
        pairs = Pairs(SIXES, 60, 60, [(rng.randrange(60), rng.randrange(60), 0) for _ in range(40)])
        sums = Sums(Group(cycle_rows(12)), (4, 4, 4, 4), [(tuple(rng.randrange(4) for _ in range(4)), 0) for _ in range(12)])
        told = Told(FORM, LONE)
        for each, question in ((pairs, (3, 4, 0)), (sums, ((1, 2, 3, 0), 0)), (told, ((2, 2), 1))):
            self.assertIs(sheet_holds(*settled_sheet("sure", (each,) + question)), True)
            self.assertIs(sheet_holds(*settled_sheet("clash", (each,))), True)
        self.assertLess(time.time() - started, 60)


if __name__ == "__main__":
    unittest.main()
