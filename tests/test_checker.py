"""[92], [93]: sheets of every kind, questions that hold and that do not, never both kinds, any values."""

import time
import unittest

from oncetested.blocks import block_bits
from oncetested.boards import Board
from oncetested.checker import sheet_holds, wrong_sheets
from oncetested.enough import fewer_changes, fewest_tries
from oncetested.errors import BoardError, NoName
from oncetested.facts import fact_paper
from oncetested.fair import is_fair
from oncetested.groups import Group, group_match
from oncetested.nets import Net
from oncetested.parted import gathered_net, net_no
from oncetested.readings import least_no, lot_reading
from oncetested.settling import contrary_kind, settled_sheet
from oncetested.splits import clash_split, sure_split
from oncetested.squares import open_square, square_group
from oncetested.tries import unnoticed_change
from sheeting import FORM, NOT_FAIR, ODD, SIXES, SUM, TWO, cases_of, flat, odd_net, paired_questions, single_questions
from shaping import BITS, FOUR, SIX
from support import any_values, as_lists, cycle_rows, deep, fair_board, latin, seeded, settings_of, table_board

PAIRED = [("one-test", "not one-test"), ("one block", "two blocks"), ("follows", "need not follow"), ("net one-test", "not net one-test"),
          ("matched", "unmatched"), ("group", "open square"), ("settled", "unsettled"), ("enough", "too few"), ("renewal", "barred"),
          ("sure", "can be other"), ("clash", "fits")]
KINDS = [kind for pair in PAIRED for kind in pair] + ["hull", "renamed", "parted", "mover", "road"]


def many_values():
    pairs, told, sums = cases_of()
    return any_values() + [pairs[0], told[0], sums[0], odd_net(), FORM, (pairs[0],), (told[1], 0), (ODD, (0, 1)), (ODD, 0, 1), deep(ODD, 10)]


class TestKinds(unittest.TestCase):
    def both(self, question, first, value, other):
        """A value holds for one kind of a row, and not for the other one."""
        for kind, contrary in PAIRED:
            if first in (kind, contrary):
                against = contrary if first == kind else kind
        self.assertIs(sheet_holds(kind=first, question=question, value=value), True)
        self.assertIs(sheet_holds(against, question, value), False)
        self.assertIs(sheet_holds(first, question, other), False)
        for kind in KINDS:
            if kind not in (first, against):
                self.assertIs(sheet_holds(kind, question, value), False)

    def test_lots(self):
        self.both((SUM, (0, 1)), "one-test", lot_reading(SUM, (0, 1)), least_no(ODD, (0, 1)))
        self.both((ODD, (0, 1)), "not one-test", least_no(ODD, (0, 1)), lot_reading(SUM, (0, 1)))
        # A no that is not the least.
        self.both((ODD, (0, 1)), "not one-test", ((0, 0), (2, 2), (3,), (1,)), ((2, 2), (0, 0), (3,), (1,)))

    def test_blocks(self):
        self.both((TWO, 0, 1), "one block", ((0, 1, (0, 0, 0), 1, 1),), ())
        self.both((TWO, 1, 1), "one block", (), None)
        self.both((TWO, 0, 2), "two blocks", block_bits(TWO), (((0, 1, 2),), 0, (TWO.marks,)))
        self.assertIs(sheet_holds("two blocks", (TWO, 0, 1), block_bits(TWO)), False)
        self.assertIs(sheet_holds("two blocks", (TWO, 2, 2), block_bits(TWO)), False)
        # The board must have two marks, and the parts must be there.
        three = Board(3, (2, 2, 2), TWO.marks)
        for question in ((three, 0, 2), (TWO, 0, 3), (TWO, 3, 0), (TWO, -1, 0), (TWO, False, 2), (TWO, 0, None)):
            self.assertIs(sheet_holds("two blocks", question, block_bits(TWO)), False)
            self.assertIs(sheet_holds("one block", question, ()), False)

    def test_follows(self):
        lots = ((0, 1), (1, 2))
        self.both((4, lots, (0, 2)), "need not follow", self.line_board(), None)
        self.both((3, lots, (0, 1, 2)), "follows", fact_paper(3, lots, (0, 1, 2)), fact_paper(3, lots, (1,)))
        line = table_board(6, 3, lambda x, y, z: SIX[SIX[x][y]][z])
        self.both((3, lots, (0, 2)), "need not follow", line, SUM)
        for value in (SUM, ODD, line.marks, Board(6, (6, 6), flat(SIX))):
            self.assertIs(sheet_holds("need not follow", (3, lots, (0, 2)), value), False)
        steps = fact_paper(3, lots, (0, 1, 2))
        for question in ((9, lots, (0, 1, 2)), (0, lots, (0,)), (True, (), (0,)), (3, lots, (0, 3)), (3, lots, ()), (3, lots + ((3,),), (0, 1, 2)),
                         (3, lots + ((),), (0, 1, 2)), (3, lots + ((1, 0),), (0, 1, 2)), (3, 0, (0, 1, 2)), (3, lots, (1, 0, 2)), (3, lots, 0)):
            self.assertIs(sheet_holds("follows", question, steps), False)
            self.assertIs(sheet_holds("need not follow", question, line), False)
        self.assertIs(sheet_holds("follows", (8, (), tuple(range(8))), (("own", tuple(range(8))),)), True)
        self.assertIs(sheet_holds("follows", (1, (), (0,)), (("own", (0,)),)), True)

    def line_board(self):
        return table_board(6, 4, lambda x, y, z, d: SIX[SIX[SIX[x][y]][z]][d])

    def test_nets(self):
        net = odd_net()
        self.both((net, (0, 2, 4)), "net one-test", gathered_net(net, (0, 2, 4)), odd_net().rows)
        self.both((net, (0, 1)), "not net one-test", net_no(net, (0, 1)), net_no(net, (0, 1))[::-1])

    def test_groups(self):
        other = Group(tuple(tuple(row) for row in FOUR))
        self.both((SIXES, SIXES), "matched", group_match(SIXES, SIXES), (1, 0, 2, 3, 4, 5))
        self.both((other, Group(BITS)), "unmatched", 4, 3)
        self.both((other, Group(cycle_rows(2))), "unmatched", 4, 1)
        for value in (True, 1, 0, "2", None, (2,), 5):
            self.assertIs(sheet_holds("unmatched", (other, Group(BITS)), value), False)
        self.assertIs(sheet_holds("unmatched", (Group(((0,),)), Group(cycle_rows(2))), True), False)
        self.assertIs(sheet_holds("unmatched", (Group(((0,),)), Group(cycle_rows(2))), 2), True)
        self.assertIs(sheet_holds("matched", (SIXES, SIXES), list(group_match(SIXES, SIXES))), False)
        for pair in ((other, Group(BITS)), (other, Group(cycle_rows(2)))):
            for value in ((0, 1, 2, 3), (0, 1), (0, 2, 1, 3)):
                self.assertIs(sheet_holds("matched", pair, value), False)

    def test_squares(self):
        five = latin(seeded(2), 5)
        self.both((FOUR,), "group", square_group(FOUR), FOUR)
        self.both((five,), "open square", open_square(five), open_square(five)[::-1])
        for rows in (((0, 1), (0, 1)), ((0, 1),), (), 0, ((0, 1), (1, 2)), "01"):
            self.assertIs(sheet_holds("group", (rows,), square_group(FOUR)), False)
            self.assertIs(sheet_holds("open square", (rows,), open_square(five)), False)
        self.assertIs(sheet_holds("group", (five,), None), False)

    def test_tries(self):
        question = (ODD, (0, 1), ((0,), (2,)))
        self.both(question, "settled", (), None)
        change = unnoticed_change(ODD, (0, 1), ((0,),))
        self.both((ODD, (0, 1), ((0,),)), "unsettled", change, ())
        u, v, t = change
        for value in ((v, u, t), (u, v, (0,)), (u, v), (u, v, t, t), list(change), (list(u), v, t), (u, list(v), t), (u, v, list(t)), (u, v, (4,)), (u, v, ()), (u, v, None),
                      (u, u, t), (None, v, t), (u, v, t + t), (u, (0, 4), t)):
            self.assertIs(sheet_holds("unsettled", (ODD, (0, 1), ((0,),)), value), False)
        # A change that does not stay at a told try.
        self.assertIs(sheet_holds("unsettled", (ODD, (0, 1), ((0,), (2,))), change), False)
        for tries in (0, ((4,),), ((0, 0),), ((True,),), (0,)):
            self.assertIs(sheet_holds("settled", (ODD, (0, 1), tries), ()), False)
            self.assertIs(sheet_holds("unsettled", (ODD, (0, 1), tries), change), False)
        self.assertIs(sheet_holds("settled", (SUM, (0, 1), [[]]), ()), True)
        self.assertIs(sheet_holds("unsettled", (SUM, (0, 1), []), ((0, 0), (0, 1), ())), True)

    def test_bools_are_no_tries(self):
        two = Board(2, (2, 2, 2), (0, 0, 1, 0, 0, 1, 1, 1))
        held = []
        for u in settings_of((2, 2)):
            for v in settings_of((2, 2)):
                for w in ((0,), (1,)):
                    if sheet_holds("unsettled", (two, (0, 1), ()), (u, v, w)):
                        held.append((u, v, w))
                        self.assertIs(sheet_holds("unsettled", (two, (0, 1), ()), (u, v, (bool(w[0]),))), False)
        self.assertEqual({w for _, _, w in held}, {(0,), (1,)})

    def test_numbers_of_tries(self):
        tries, changes = fewest_tries(ODD, (0, 1)), fewer_changes(ODD, (0, 1))
        self.assertEqual(len(tries), 2)
        self.both((ODD, (0, 1), 2), "enough", tries, tries[:1])
        self.both((ODD, (0, 1), 10 ** 20), "enough", tries + tries, None)
        self.both((ODD, (0, 1), 1), "too few", changes, changes[:0])
        self.assertIs(sheet_holds("enough", (ODD, (0, 1), 1), tries), False)
        self.assertIs(sheet_holds("enough", (ODD, (0, 1), 2), list(tries)), False)
        self.assertIs(sheet_holds("enough", (ODD, (0, 1), 2), as_lists(tries)), False)
        self.assertIs(sheet_holds("enough", (ODD, (0, 1), 2), tuple(list(each) for each in tries)), False)
        for number in (-1, True, None, "2", (2,)):
            self.assertIs(sheet_holds("enough", (ODD, (0, 1), number), tries), False)
            self.assertIs(sheet_holds("too few", (ODD, (0, 1), number), changes), False)
        # For more tries than 64 nothing is told.
        many = Board(2, (2,) * 8, [sum(s) * sum(s) // 3 % 2 for s in settings_of((2,) * 8)])
        for kind, value in (("enough", ()), ("too few", ()), ("settled", ()), ("unsettled", ((0,), (1,), (0,) * 7))):
            self.assertIs(sheet_holds(kind, (many, (0,), 0 if kind in ("enough", "too few") else ()), value), False)

    def test_renewals(self):
        renewal = ((1, 0, 3, 2), (1, 0, 3, 2))
        self.both((ODD, (0, 1), (0, 0), (1, 1)), "renewal", renewal, ((1, 0, 3, 2), (0, 1, 2, 3)))
        self.assertIs(sheet_holds("renewal", (ODD, (0, 1), (0, 0), (1, 0)), renewal), False)
        self.both((ODD, (0, 1), (0, 0), (2, 2)), "barred", (0, 0, 0), (0, 0, 2))
        self.assertIs(sheet_holds("barred", (ODD, (0, 1), (0, 0), (1, 1)), (0, 0, 0)), False)
        for u, v in (((0,), (1, 1)), ((0, 4), (1, 1)), ((0, 0), (1, True)), (0, (1, 1)), ((0, 0), None)):
            self.assertIs(sheet_holds("renewal", (ODD, (0, 1), u, v), renewal), False)
            self.assertIs(sheet_holds("barred", (ODD, (0, 1), u, v), (0, 0, 0)), False)
        self.assertIs(sheet_holds("barred", (NOT_FAIR, (0, 1), (0, 0), (1, 0)), (0, 0)), False)

    def test_pairs(self):
        pairs, _, _ = cases_of()
        road, ring = (0, 1, 2), (0, 1)
        mark = SIXES.product((1, SIXES.undone[2], 3))
        self.both((pairs[0], 0, 1, mark), "sure", road, (0, 1))
        self.assertIs(sheet_holds("sure", (pairs[0], 0, 1, (mark + 1) % 6), road), False)
        readings = pairs[0].some_readings()
        self.both((pairs[0], 0, 1, (mark + 1) % 6), "can be other", readings, readings[:1])
        self.assertIs(sheet_holds("can be other", (pairs[0], 0, 1, mark), readings), False)
        self.both((pairs[0],), "fits", readings, road)
        self.both((pairs[3],), "clash", ring, (0,))
        # Nothing fits, but a road still has its mark.
        self.assertIs(sheet_holds("sure", (pairs[3], 0, 0, 1), (0,)), True)
        self.assertIs(sheet_holds("sure", (pairs[3], 0, 0, 2), (1,)), True)
        for question in ((pairs[0], 3, 1, mark), (pairs[0], 0, 3, mark), (pairs[0], 0, 1, 6), (pairs[0], 0, 1, -1), (pairs[0], False, 1, mark),
                         (pairs[0], 0, 1), (pairs[0], (0, 1), mark), (pairs[0],)):
            self.assertIs(sheet_holds("sure", question, road), False)
            self.assertIs(sheet_holds("can be other", question, readings), False)

    def test_told(self):
        _, told, _ = cases_of()
        split = sure_split(told[0], (1, 1))
        self.both((told[0], (1, 1), 0), "sure", split, ("mark",))
        self.assertIs(sheet_holds("sure", (told[0], [1, 1], 0), split), True)
        names = told[0].all_names()[0]
        self.both((told[0], (1, 1), 1), "can be other", names, names[:1])
        self.assertIs(sheet_holds("can be other", (told[0], (1, 1), 0), names), False)
        self.both((told[2],), "clash", clash_split(told[2]), ("case", 0))
        self.both((told[0],), "fits", names, as_lists(names))
        self.assertIs(sheet_holds("sure", (told[2], (2, 2), 1), clash_split(told[2])), True)
        for question in ((told[0], (1, 3), 0), (told[0], (1,), 0), (told[0], (1, 1), 3), (told[0], (1, 1), False), (told[0], 1, 0), (told[0], 1, 1, 0)):
            self.assertIs(sheet_holds("sure", question, split), False)
            self.assertIs(sheet_holds("can be other", question, names), False)

    def test_sums(self):
        _, _, sums = cases_of()
        self.both((sums[0], (1, 1), 1), "sure", (2, 1, 1), (2, 1, 0))
        self.assertIs(sheet_holds("sure", (sums[0], (1, 1), 2), (2, 1, 1)), False)
        readings = sums[0].some_readings()
        self.both((sums[0], (1, 1), 2), "can be other", readings, as_lists(readings))
        self.assertIs(sheet_holds("can be other", (sums[0], (1, 1), 1), readings), False)
        self.both((sums[4],), "clash", sums[4].clash_paper(), (1, (0, 0)))
        self.both((sums[0],), "fits", readings, (2, 1, 1))
        for question in ((sums[0], (1, 2), 1), (sums[0], (1,), 1), (sums[0], (1, 1), 3), (sums[0], (1, 1), True), (sums[0], 1, 1)):
            self.assertIs(sheet_holds("sure", question, (2, 1, 1)), False)
            self.assertIs(sheet_holds("can be other", question, readings), False)

    def test_the_last_row(self):
        for kind, question, value in single_questions():
            self.assertIs(sheet_holds(kind, question, value), True, kind)
            for other in KINDS:
                if other != kind:
                    self.assertIs(sheet_holds(other, question, value), False)
            for spoilt in (as_lists(value), value + (0,), None, ((),), value[1:] if value else 0):
                self.assertIs(sheet_holds(kind, question, spoilt), False, (kind, spoilt))
        triples = dict((kind, (question, value)) for kind, question, value in single_questions()[::-1])
        question, value = triples["hull"]
        for lot in ((0,), (0, 1, 2), (1, 0), (), None, (0, True)):
            self.assertIs(sheet_holds("hull", (question[0], (0,), lot), value), False)
        (form, other), value = triples["parted"]
        self.assertIs(sheet_holds("parted", (form, form), value), False)
        self.assertIs(sheet_holds("parted", (form, FORM), (0, 0)), False)
        self.assertIs(sheet_holds("parted", (form, FORM), value), False)
        self.assertIs(sheet_holds("renamed", (form, FORM), triples["renamed"][1]), False)
        self.assertIs(sheet_holds("mover", (SUM, 3), triples["mover"][1]), False)
        self.assertIs(sheet_holds("mover", (NOT_FAIR, 0), ((0, 1), (0, 1))), False)
        self.assertIs(sheet_holds("mover", (Board(2, (2,), (0, 1)), 0), ((0, 1), (0, 1))), False)
        (board, lots, setting, end), value = triples["road"]
        for question in ((board, lots, setting, (1, 3, 1)), (board, lots, (0, 0, 4), end), (board, 0, setting, end), (board, ((0, 3),), setting, end),
                         (board, lots[::-1], setting, end), (board, lots, None, end)):
            self.assertIs(sheet_holds("road", question, ((0, ((1, 2, 3, 0), (3, 0, 1, 2))),)), False)


class TestAnyValues(unittest.TestCase):
    def test_kinds_that_are_none(self):
        question, value = (SUM, (0, 1)), lot_reading(SUM, (0, 1))
        for kind in many_values() + ["One-test", "one-test ", "sure pairs", "clash told", "clash none", "none", "", "one", "hull "]:
            self.assertIs(sheet_holds(kind, question, value), False)
        pairs = cases_of()[0][0]
        self.assertIs(sheet_holds("sure pairs", (pairs, 0, 0, 1), (0,)), False)
        self.assertIs(sheet_holds("fits pairs", (pairs,), pairs.some_readings()), False)
        self.assertIs(sheet_holds("clash pairs", (pairs,), pairs.some_readings()), False)

    def test_questions_of_every_kind(self):
        values = many_values()
        for kind in KINDS:
            for value in values:
                self.assertIs(sheet_holds(kind, value, value), False, (kind, value))
                for many in range(1, 6):
                    self.assertIs(sheet_holds(kind, (value,) * many, value), False, (kind, value))

    def test_one_thing_of_a_question_spoilt(self):
        values = many_values()
        for kind, question in paired_questions()[::7]:
            sheet = settled_sheet(kind, question)
            for at in range(len(question)):
                for other in values:
                    spoilt = sheet[1][:at] + (other,) + sheet[1][at + 1:]
                    for each in (sheet[0], contrary_kind(sheet[0])):
                        self.assertIn(sheet_holds(each, spoilt, sheet[2]), (True, False))
            for spoilt in (sheet[1] + (0,), sheet[1][:-1], list(sheet[1])):
                self.assertIs(sheet_holds(sheet[0], spoilt, sheet[2]), False)

    def test_values_of_every_kind(self):
        values = many_values()
        for kind, question in paired_questions()[::3]:
            for each in (kind, contrary_kind(kind)):
                for value in values:
                    self.assertIn(sheet_holds(each, question, value), (True, False))
        for kind, question, _ in single_questions():
            for value in values:
                self.assertIn(sheet_holds(kind, question, value), (True, False))

    def test_lists_within_questions(self):
        for kind, question in paired_questions()[::2]:
            sheet = settled_sheet(kind, question)
            listed = tuple(as_lists(part) for part in sheet[1])
            self.assertIs(sheet_holds(sheet[0], listed, sheet[2]), True)
            self.assertIs(sheet_holds(contrary_kind(sheet[0]), listed, sheet[2]), False)
        for kind, question, value in single_questions():
            self.assertIs(sheet_holds(kind, tuple(as_lists(part) for part in question), value), True)
            self.assertIs(sheet_holds(kind, list(question), value), False)


class TestNeverBoth(unittest.TestCase):
    def test_values_of_one_question_for_another_one(self):
        rng = seeded(5)
        questions = paired_questions()
        sheets = [settled_sheet(kind, question) for kind, question in questions]
        for kind, question in rng.sample(questions, 250):
            rows = [sheet for sheet in sheets if sheet[0] in (kind, contrary_kind(kind))]
            values = [sheet[2] for sheet in rng.sample(rows, min(60, len(rows)))]
            found = set()
            for value in values:
                for each in (kind, contrary_kind(kind)):
                    if sheet_holds(each, question, value):
                        found.add(each)
            self.assertLess(len(found), 2)

    def test_rows_of_sheets(self):
        sheets = [settled_sheet(kind, question) for kind, question in paired_questions()[::4]] + single_questions()
        self.assertEqual(wrong_sheets(sheets), ())
        self.assertEqual(wrong_sheets(sheets=tuple(sheets)), ())
        spoilt = list(sheets)
        for at in (0, 5, 11, len(sheets) - 1):
            spoilt[at] = list(spoilt[at])
        spoilt[7] = spoilt[7] + (0,)
        spoilt[9] = (contrary_kind(spoilt[9][0]),) + spoilt[9][1:]
        self.assertEqual(wrong_sheets(spoilt), (0, 5, 7, 9, 11, len(sheets) - 1))
        self.assertEqual(wrong_sheets(any_values()), tuple(range(len(any_values()))))
        self.assertEqual(wrong_sheets(()), ())

    def test_nothing_else_is_raised(self):
        for value in any_values():
            with self.assertRaises(NoName) as caught:
                contrary_kind(value)
            self.assertNotIsInstance(caught.exception, BoardError)


class TestLimits(unittest.TestCase):
    def test_512_settings(self):
        started = time.time()
        rng = seeded(6)
        line = Board(8, (8, 8, 8), [x ^ y ^ z for x, y, z in settings_of((8, 8, 8))])
        two = Board(2, (2,) * 8, [sum(s) % 2 for s in settings_of((2,) * 8)])
        wide = fair_board(rng, 4, 4)
        questions = [("one-test", (board, lot)) for board in (line, wide) for lot in ((0,), (0, 1), (1, 2))]
        questions += [("one block", (two, 0, 7)), ("one block", (two, 3, 3))]
        questions += [("renewal", (line, (0, 2), (0, 0), (v, v))) for v in range(3)]
        questions += [("settled", (wide, (0, 1), ((),) if settled_sheet("one-test", (wide, (0, 1)))[0] == "one-test" else ()))]
        questions += [("follows", (8, ((0, 1), (1, 2, 3), (3, 4), (5, 6, 7)), lot)) for lot in ((0, 1, 2, 3), (1,), (0, 1, 2, 3, 4))]
        for kind, question in questions:
            sheet = settled_sheet(kind, question)
            self.assertIs(sheet_holds(*sheet), True)
        self.assertTrue(is_fair(line))
        net = Net(4, 60, [(flat(BITS), (0, 1))] + [(flat(FOUR if at % 3 else BITS), (58 + at, at)) for at in range(2, 60)])
        for lot in ((0, 1), tuple(range(30)), (3, 40)):
            self.assertIs(sheet_holds(*settled_sheet("net one-test", (net, lot))), True)
        self.assertLess(time.time() - started, 90)


if __name__ == "__main__":
    unittest.main()
