"""[41], [42], [43]: forms of boards, their texts, names of wires, the content that brings a mark."""

import time
import unittest

from oncetested.boards import Board
from oncetested.errors import InvalidForm, InvalidSetting, InvalidSize, InvalidText, Refused
from oncetested.forms import Form, board_form, form_board, form_lots, form_marks, form_shape, needed_content
from oncetested.trees import shape_of
from shaping import (BITS, EIGHT_BITS, FOUR, SIX, SQUARE, inner_lots, kinds_of_boards, leaves, odd_mark, places, random_shape,
                     tree_board)
from support import (any_values, as_lists, cycle_rows, fair_board, has_lists, latin, named_table, odd_board, seeded,
                     settings_of, sums_board, told_error)


def flat(rows):
    return tuple(mark for row in rows for mark in row)


def unit_table(rng, rows, base):
    """A group's table with other names, so that the unit is the base."""
    unit = rows.index(tuple(range(len(rows))))
    names = rng.sample([mark for mark in range(len(rows)) if mark != base], len(rows) - 1)
    return named_table(rows, names[:unit] + [base] + names[unit:])


def unit_square(rng, many, base):
    """Any square that brings the other name beside the base."""
    rows = latin(rng, many)
    column = [row[base] for row in rows]
    names = {rows[base][y]: y for y in range(many)}
    table = [[None] * many for _ in range(many)]
    for x in range(many):
        for y in range(many):
            table[names[column[x]]][y] = names[rows[x][y]]
    return tuple(tuple(row) for row in table)


def unit_odd(rng, count, base):
    """A table of a bare knot of three or more children with four marks, and a base as its unit."""
    start = tuple(rng.randrange(4) for _ in range(count))
    lines = [[odd_mark(start[:at] + (content,) + start[at + 1:]) for content in range(4)] for at in range(count)]
    # A child's name is the mark that it brings; then all names are changed so that the unit is the base.
    names = [base] + rng.sample([mark for mark in range(4) if mark != base], 3)
    turn = dict(zip([odd_mark(start)] + [mark for mark in range(4) if mark != odd_mark(start)], names))
    table = {}
    for setting in settings_of((4,) * count):
        table[tuple(turn[lines[at][content]] for at, content in enumerate(setting))] = turn[odd_mark(setting)]
    return tuple(table[setting] for setting in settings_of((4,) * count))


def is_group(rows):
    many = range(len(rows))
    return all(rows[rows[x][y]][z] == rows[x][rows[y][z]] for x in many for y in many for z in many)


def own_group(kind, wires, table):
    """The rows that no child may have, or None."""
    if kind != "bare":
        return table
    many = round(len(table) ** 0.5)
    rows = tuple(tuple(table[at:at + many]) for at in range(0, len(table), many))
    return rows if len(wires) == 2 and is_group(rows) else None


def random_form(rng, many, tree):
    """The arguments of a form of a tree; bare knots of three or more children have four marks."""
    parts = len(leaves(tree))
    base = rng.randrange(many)
    names = [(base, *rng.sample([mark for mark in range(many) if mark != base], many - 1)) for _ in range(parts)]
    free = {2: [cycle_rows(2)], 3: [cycle_rows(3)], 4: [FOUR, BITS], 5: [cycle_rows(5)], 6: [cycle_rows(6)], 7: [cycle_rows(7)],
            8: [cycle_rows(8), EIGHT_BITS]}[many]
    line = {6: [SIX], 8: [SQUARE]}.get(many, [])
    knots = []

    def wire_of(place):
        if isinstance(place, int):
            return place
        kind, children = place
        wires = tuple(wire_of(child) for child in children)
        beneath = [own_group(*knots[wire - parts]) for wire in wires if wire >= parts]
        while True:
            if kind == "bare":
                table = flat(unit_square(rng, many, base)) if len(wires) == 2 else unit_odd(rng, len(wires), base)
            else:
                table = unit_table(rng, rng.choice(free if kind == "free" else line), base)
            group = own_group(kind, wires, table)
            if group is None or group not in beneath and tuple(zip(*group)) not in beneath:
                knots.append((kind, wires, table))
                return parts + len(knots) - 1

    wire_of(tree)
    return many, tuple(names), tuple(knots)


def random_forms(number, count, most=4):
    rng = seeded(number)
    found = 0
    while found < count:
        shape = random_shape(rng, list(range(rng.randint(1, most))))
        kinds = {(tree[0], len(tree[1])) for tree in trees(shape)}
        bare = any(kind == "bare" and size > 2 for kind, size in kinds)
        line = any(kind == "line" for kind, _ in kinds)
        if bare and line:
            continue
        many = 4 if bare else rng.choice((6, 8)) if line else rng.choice((4, 6, 8))
        if any(size > 4 for _, size in kinds) or many ** len(leaves(shape)) > 4096:
            continue
        found += 1
        yield rng, shape, random_form(rng, many, shape)


def trees(tree):
    return [] if isinstance(tree, int) else [tree] + [knot for child in tree[1] for knot in trees(child)]


def marks_of(many, names, knots, setting):
    """The names of all wires, by hand."""
    marks = [row[content] for row, content in zip(names, setting)]
    for kind, wires, table in knots:
        read = [marks[wire] for wire in wires]
        if kind == "bare":
            marks.append(table[sum(mark * many ** (len(read) - 1 - at) for at, mark in enumerate(read))])
        else:
            done = read[0]
            for mark in read[1:]:
                done = table[done][mark]
            marks.append(done)
    return tuple(marks)


NAMES = ((0, 1, 2, 3),) * 4
XOR = ("bare", (0, 1), flat(BITS))


class TestForm(unittest.TestCase):
    def test_attributes(self):
        names = [[3, 1, 0, 2], [3, 0, 1, 2]]
        wires, table = [0, 1], list(flat(unit_square(seeded(1), 4, 3)))
        form = Form(4, names, [("bare", wires, tuple(table))])
        names[0][0] = 9
        wires.append(2)
        self.assertEqual((form.many, form.names, form.base), (4, ((3, 1, 0, 2), (3, 0, 1, 2)), 3))
        self.assertEqual(form.knots, (("bare", (0, 1), tuple(table)),))
        self.assertEqual(len(form), 2)
        self.assertFalse(has_lists((form.names, form.knots)))
        with self.assertRaises(TypeError):
            iter(form)

    def test_arguments(self):
        for _, shape, (many, names, knots) in random_forms(2, 20):
            form = Form(many, names, knots)
            listed = Form(knots=[(kind, list(wires), as_lists(table)) for kind, wires, table in knots], names=as_lists(names), many=many)
            self.assertEqual(listed, form)
            self.assertFalse(has_lists((listed.names, listed.knots)))
            self.assertEqual((form.many, form.names, form.knots, form.base), (many, names, knots, names[0][0]))
            self.assertEqual(len(form), len(leaves(shape)))

    def test_equality(self):
        form = Form(4, NAMES[:2], (XOR,))
        self.assertTrue(form == Form(4, NAMES[:2], [XOR]))
        others = [Form(4, NAMES[:1], ()), Form(4, (NAMES[0], (0, 1, 3, 2)), (XOR,)), Form(4, NAMES[:2], (("bare", (0, 1), flat(FOUR)),)),
                  Form(3, ((0, 1, 2),), ()), form_board(form), form.text(), None, 4, True, (4, NAMES[:2], (XOR,))]
        for other in others:
            self.assertFalse(form == other)
            self.assertTrue(form != other)
        self.assertFalse(Form(2, ((0, 1),), ()) == Form(2, ((1, 0),), ()))

    def test_many(self):
        for value in any_values() + [9, 1]:
            if not (type(value) is int and 2 <= value <= 8):
                told_error(self, InvalidForm, "many", Form, value, value, value)

    def test_names(self):
        for value in any_values():
            if not isinstance(value, (list, tuple)) or len(value) == 0:
                told_error(self, InvalidForm, ("names", -1), Form, 2, value, value)
        told_error(self, InvalidForm, ("names", -1), Form, 2, ((0, 1),) * 201, None)
        right = ((2, 0, 1), (2, 1, 0))
        for row in any_values() + [(2, 0), (2, 0, 1, 3), (2, 0, 0), (0, 1, 2), (2, True, 0), (2, 0, 3), [1, 0, 2], "201"]:
            for at in (1, 2):
                told_error(self, InvalidForm, ("names", at), Form, 3, right[:at] + (row, row), None)
        told_error(self, InvalidForm, ("names", 0), Form, 3, ((2, 0, 0), None), None)
        told_error(self, InvalidForm, ("names", 1), Form, 2, [(0, 1), [1, 0]], None)
        self.assertEqual(Form(3, right[:1], ()).base, 2)

    def test_knots_are_a_sequence(self):
        for value in any_values():
            if not isinstance(value, (list, tuple)):
                told_error(self, InvalidForm, ("knots", -1), Form, 4, NAMES, value)
            elif len(value) > 0:
                told_error(self, InvalidForm, ("knots", 0), Form, 4, NAMES, value)

    def test_one_wire_is_left_unread(self):
        told_error(self, InvalidForm, ("knots", -1), Form, 4, NAMES[:2], ())
        told_error(self, InvalidForm, ("knots", -1), Form, 4, NAMES[:3], [XOR])
        told_error(self, InvalidForm, ("knots", -1), Form, 4, NAMES, (XOR, ("bare", (2, 3), flat(BITS))))
        self.assertEqual(len(Form(4, NAMES, (XOR, ("bare", (2, 3), flat(BITS)), ("bare", (4, 5), flat(FOUR))))), 4)

    def wrong(self, *knots, names=NAMES, many=4):
        told_error(self, InvalidForm, ("knots", len(knots) - 1), Form, many, names, knots + (None,))
        told_error(self, InvalidForm, ("knots", len(knots) - 1), Form, many, names, list(knots))

    def test_no_tuple_of_three(self):
        for value in any_values() + [list(XOR), XOR[:2], XOR + (0,), ("bare", "01", XOR[2]), ("Bare",) + XOR[1:], (None,) + XOR[1:],
                                     (("bare",),) + XOR[1:], (["bare"],) + XOR[1:], ("bare", None, XOR[2]), ("bare", 0, XOR[2])]:
            self.wrong(value)
            self.wrong(XOR, value)

    def test_wires(self):
        for wires in ((), (0,), (0, 0), (1, 0), (0, 4), (0, 5), (0, -1), (0, True), (0, None), ((0,), 1), (0, "1"), (0, 10 ** 30)):
            self.wrong(("bare", wires, flat(BITS)))
        for wires in ((0, 1), (0, 1, 1), (1, 0, 2), (0, 2, 1), (0, 1, 4), (0, 1, True), ()):
            self.wrong(("free", wires, BITS))
        for wires in ((0, 2), (0, 5), (5, 2), (2, 0), (2, 1), (1, 2), (2, 5), (4, 4), (2, 4)):
            self.wrong(XOR, ("bare", wires, flat(FOUR)))
        six = ((0, 1, 2, 3, 4, 5),) * 5
        for wires in ((2, 1, 0), (1, 2, 0), (1, 0), (0, 1, 0), (4, 0, 3)):
            self.wrong(("line", wires, SIX), names=six, many=6)
        line = ("line", (1, 0, 3, 2, 4), SIX)
        self.assertEqual(Form(6, six, [line]).knots, (line,))

    def test_knots_that_are_read_stand_last(self):
        other = ("bare", (2, 3), flat(BITS))
        names = ((0, 1, 2, 3),) * 5
        # The first knot may not be read ahead of the second one.
        self.wrong(XOR, other, ("bare", (5, 4), flat(FOUR)), names=names)
        last = ("bare", (5, 7), flat(named_table(FOUR, (0, 2, 1, 3))))
        self.assertEqual(len(Form(4, names, (XOR, other, ("bare", (6, 4), flat(FOUR)), last))), 5)
        late = ("bare", (0, 1), flat(BITS))
        early = ("bare", (2, 3), flat(BITS))
        self.wrong(early, late, ("bare", (5, 4), flat(FOUR)))
        self.wrong(early, late, ("bare", (4, 5), flat(FOUR)))
        six = ((0, 1, 2, 3, 4, 5),) * 6
        twice = (("bare", (0, 1), flat(cycle_rows(6))), ("bare", (2, 3), flat(cycle_rows(6))))
        self.wrong(*twice, ("line", (7, 6, 4, 5), SIX), names=six, many=6)
        self.assertEqual(len(Form(6, six, twice + (("line", (6, 4, 7, 5), SIX),))), 6)

    def test_bare_tables(self):
        right = flat(FOUR)
        for table in any_values() + [right[:-1], right + (0,), right[:-1] + (4,), right[:-1] + (True,), "0" * 16, FOUR, flat(named_table(FOUR, (1, 0, 2, 3))),
                                     (0, 1, 2, 3, 1, 2, 3, 0, 2, 3, 0, 1, 3, 0, 1, 1), (0, 1, 2, 3, 1, 0, 3, 2, 2, 3, 0, 1, 3, 1, 2, 0),
                                     (0,) * 16]:
            self.wrong(("bare", (0, 1), table))
        # Each name stands once in each row and column, but not beside the unit.
        self.wrong(("bare", (0, 1), flat(((0, 1, 2, 3), (2, 3, 0, 1), (1, 0, 3, 2), (3, 2, 1, 0)))))
        self.wrong(("bare", (0, 1), flat(((0, 2, 1, 3), (1, 3, 0, 2), (2, 0, 3, 1), (3, 1, 2, 0)))))

    def test_bare_tables_of_three_or_more(self):
        rng = seeded(3)
        for count in (3, 4):
            wires = tuple(range(count))
            table = unit_odd(rng, count, 0)
            form = Form(4, NAMES[:count], [("bare", wires, table)])
            self.assertEqual(form_shape(form), ("bare", wires))
            changed = list(table)
            changed[-1], changed[-2] = changed[-2], changed[-1]
            self.wrong(("bare", wires, changed))
            self.wrong(("bare", wires, table[:-1]))
            self.wrong(("bare", wires, table + (0,)))
            sums = tuple(sum(setting) % 4 for setting in settings_of((4,) * count))
            self.wrong(("bare", wires, sums))
        mixed = tuple(((x ^ y) + z) % 4 for x, y, z in settings_of((4, 4, 4)))
        self.wrong(("bare", (0, 1, 2), mixed))
        marks = tree_board(6, ("line", (0, 1, 2)), {"line": SIX}).marks
        self.wrong(("bare", (0, 1, 2), marks), names=((0, 1, 2, 3, 4, 5),) * 3, many=6)

    def test_too_many_children(self):
        two = ((0, 1),) * 9
        self.wrong(("bare", tuple(range(9)), tuple(sum(setting) % 2 for setting in settings_of((2,) * 9))), names=two, many=2)
        eight = (tuple(range(8)),) * 5
        self.wrong(("bare", tuple(range(5)), tuple(sum(setting) % 8 for setting in settings_of((8,) * 5))), names=eight, many=8)

    def test_tables_of_groups(self):
        square = latin(seeded(4), 6)
        for table in any_values() + [flat(BITS), BITS[:3], BITS + BITS[:1], BITS[:3] + ((3, 2, 1),), BITS[:3] + ((3, 2, 1, True),),
                                     BITS[:3] + ((3, 2, 1, 1),), cycle_rows(3), cycle_rows(5), named_table(FOUR, (1, 0, 2, 3))]:
            self.wrong(("free", (0, 1, 2), table))
        six = ((0, 1, 2, 3, 4, 5),) * 4
        self.wrong(("free", (0, 1, 2), SIX), names=six, many=6)
        self.wrong(("line", (0, 1, 2), cycle_rows(6)), names=six, many=6)
        self.wrong(("line", (0, 1, 2), square), names=six, many=6)
        self.wrong(("line", (0, 1, 2), named_table(SIX, (1, 0, 2, 3, 4, 5))), names=six, many=6)
        # A commutative square with a unit that is no group.
        five = ((0, 1, 2, 3, 4), (1, 0, 3, 4, 2), (2, 3, 4, 0, 1), (3, 4, 0, 2, 1), (4, 2, 1, 1, 0))
        self.wrong(("free", (0, 1, 2), five), names=((0, 1, 2, 3, 4),) * 3, many=5)

    def test_children_of_the_same_group(self):
        free = ("free", (0, 1, 2), FOUR)
        self.wrong(free, ("bare", (4, 3), flat(FOUR)))
        self.wrong(XOR, ("free", (4, 2, 3), BITS))
        self.wrong(XOR, ("bare", (4, 2), flat(BITS)))
        self.assertEqual(form_shape(Form(4, NAMES, [free, ("bare", (4, 3), flat(BITS))])), ("bare", (("free", (0, 1, 2)), 3)))
        self.assertEqual(form_shape(Form(4, NAMES, [XOR, ("free", (4, 2, 3), FOUR)])), ("free", (("bare", (0, 1)), 2, 3)))
        # A group of the same kind with other names is another group.
        self.assertEqual(len(Form(4, NAMES, [XOR, ("free", (4, 2, 3), named_table(FOUR, (0, 2, 1, 3)))])), 4)
        renamed = flat(named_table(FOUR, (0, 2, 1, 3)))
        self.assertEqual(len(Form(4, NAMES[:3], [("bare", (0, 1), flat(FOUR)), ("bare", (3, 2), renamed)])), 3)
        six = ((0, 1, 2, 3, 4, 5),) * 5
        turned = tuple(zip(*SIX))
        for rows in (SIX, turned):
            self.wrong(("bare", (0, 1), flat(rows)), ("line", (5, 2, 3), SIX), names=six, many=6)
            self.wrong(("line", (0, 1, 2), rows), ("line", (5, 3, 4), SIX), names=six, many=6)
            self.wrong(("line", (0, 1, 2), rows), ("bare", (5, 3), flat(SIX)), names=six, many=6)
        # What is no group by its own names may stand above itself.
        rng = seeded(5)
        five = cycle_rows(5)
        while is_group(five):
            five = unit_square(rng, 5, 0)
        self.assertEqual(len(Form(5, ((0, 1, 2, 3, 4),) * 3, [("bare", (0, 1), flat(five)), ("bare", (3, 2), flat(five))])), 3)

    def test_the_first_wrong_knot(self):
        told_error(self, InvalidForm, ("knots", 0), Form, 4, NAMES, [None, None])
        told_error(self, InvalidForm, ("knots", 1), Form, 4, NAMES, [XOR, XOR, None])
        told_error(self, InvalidForm, ("names", 1), Form, 4, (NAMES[0], None), [None])


class TestText(unittest.TestCase):
    def test_there_and_back(self):
        for _, _, (many, names, knots) in random_forms(6, 40):
            form = Form(many, names, knots)
            rows = form.text().split("\n")
            self.assertEqual(rows[0], f"marks {many}")
            for row, told in zip(rows[1:], names):
                self.assertEqual(row, "part " + "".join(map(str, told)))
            for row, (kind, wires, table) in zip(rows[1 + len(names):], knots):
                marks = table if kind == "bare" else flat(table)
                self.assertEqual(row, f"{kind} {' '.join(map(str, wires))} {''.join(map(str, marks))}")
            self.assertEqual(len(rows), 1 + len(names) + len(knots))
            self.assertEqual(Form.read(form.text()), form)
            self.assertEqual(Form.read(text=form.text()), form)
        self.assertEqual(Form(2, ((1, 0),), ()).text(), "marks 2\npart 10")

    def test_no_string(self):
        for value in any_values():
            if not isinstance(value, str):
                told_error(self, InvalidText, -1, Form.read, value)
            else:
                told_error(self, InvalidText, 1 if value == "marks 2" else 0, Form.read, value)

    def test_each_row(self):
        rows = ["marks 4", "part 0123", "part 0132", "part 0321", "bare 0 1 " + "".join(map(str, flat(BITS))), "bare 3 2 " + "".join(map(str, flat(FOUR)))]
        self.assertEqual(len(Form.read("\n".join(rows))), 3)
        wrong = {0: ["", "marks", "marks 10", "marks x", "mark 4", "marks  4", " marks 4", "marks 4 ", "part 0123", "marks -1", "marks 4 4", "4"],
                 1: ["", "part", "part ", "part 01 23", "part 01x3", "part  0123", " part 0123", "part 0123 ", "parts 0123", "part 0,1", rows[4]],
                 2: ["", "part", "part ", "part 0x", "par 0123"],
                 4: ["", "bare", "bare 0 1 ", "bare 0123", "bare 0 01 0", "bare 0 x 0", "bare 0 -1 0", "bare 0 1000 0", "bare  0 1 0",
                     "bare 0 1 0 ", "bared 0 1 0", "line 0 1 2 012", "free 0 1 2 0123012301230", "free 0 1 2 " + "0" * 17, "Bare 0 1 0", "free 0 1 2 x",
                     "bare 0 1 0x", "part", "knot" + rows[4][4:], "part" + rows[4][4:]],
                 5: ["", "part 0123", "part 0123 ", "bare 3 2 ", "knot 3 2 0"]}
        for at, texts in wrong.items():
            for text in texts:
                told_error(self, InvalidText, at, Form.read, "\n".join(rows[:at] + [text] + rows[at + 1:]))
        for at in (0, 1):
            told_error(self, InvalidText, at, Form.read, "\n".join(rows[:at]))
        told_error(self, InvalidText, 6, Form.read, "\n".join(rows) + "\n")
        told_error(self, InvalidText, 1, Form.read, "marks 4\n")

    def test_then_forms(self):
        for text, at in (("marks 9\npart 0", "many"), ("marks 0\npart 0", "many"), ("marks 1\npart 0", "many"), ("marks 2\npart 00", ("names", 0)),
                         ("marks 2\npart 01\npart 10", ("names", 1)), ("marks 2\npart 9999999", ("names", 0)), ("marks 2\npart 01\npart 01", ("knots", -1)),
                         ("marks 2\npart 01\npart 01\nbare 0 1 0", ("knots", 0)), ("marks 2\npart 01\npart 01\nbare 0 999 0110", ("knots", 0)),
                         ("marks 2\npart 01\npart 01\nbare 0 0110", ("knots", 0)), ("marks 2\npart 01\npart 01\nfree 0 1 0110", ("knots", 0)),
                         ("marks 2\npart 01\npart 01\nbare 0 1 0110\nbare 0 1 0110", ("knots", 1)), ("marks 9\npart 0\nfree 7 " + "0" * 81, "many")):
            told_error(self, InvalidForm, at, Form.read, text)
        # Texts go ahead of forms.
        told_error(self, InvalidText, 3, Form.read, "marks 9\npart 0\npart 99\nknot")
        told_error(self, InvalidText, 2, Form.read, "marks 0\npart 0\nfree 0 0")


class TestBoards(unittest.TestCase):
    def check(self, board):
        form = board_form(board=board)
        self.assertEqual((form.many, len(form), form.base), (board.many, len(board), board((0,) * len(board))))
        self.assertEqual(form_board(form=form), board)
        self.assertEqual(Form(form.many, form.names, form.knots), form)
        shape = form_shape(form=form)
        self.assertEqual(shape, shape_of(board))
        lots = form_lots(form)
        self.assertEqual(lots[:len(board)], tuple((part,) for part in range(len(board))))
        self.assertEqual(sorted(lots), sorted(lot for lot, place in places(shape) if place[0] == lot))
        # A wire's name is the mark with all else at 0.
        for setting in settings_of(board.sizes)[::max(1, len(board.marks) // 60)]:
            marks = form_marks(form, setting)
            self.assertEqual(marks, marks_of(form.many, form.names, form.knots, setting))
            self.assertEqual(len(marks), len(lots))
            self.assertEqual(form(setting), board(setting))
            for lot, mark in zip(lots, marks):
                alone = tuple(content if part in lot else 0 for part, content in enumerate(setting))
                self.assertEqual(mark, board(alone))

    def test_each_kind_of_knot(self):
        rng = seeded(7)
        for board, shape in kinds_of_boards(rng):
            self.check(board)
            self.assertEqual(form_shape(board_form(board)), shape)
            rows = [rng.sample(range(board.many), board.many) for _ in range(len(board) + 1)]
            marks = [rows[-1][board(tuple(rows[part][content] for part, content in enumerate(setting)))] for setting in settings_of(board.sizes)]
            self.check(Board(board.many, board.sizes, marks))

    def test_random_boards(self):
        rng = seeded(8)
        for _ in range(60):
            many = rng.randint(2, 6)
            self.check(fair_board(rng, many, rng.randint(1, 4 if many < 5 else 3)))

    def test_each_form_is_its_boards(self):
        for _, shape, (many, names, knots) in random_forms(9, 40):
            form = Form(many, names, knots)
            board = form_board(form)
            self.assertEqual(board.sizes, (many,) * len(names))
            self.assertEqual(board.marks, tuple(marks_of(many, names, knots, setting)[-1] for setting in settings_of(board.sizes)))
            self.assertEqual(board_form(board), form)
            self.assertEqual((form_shape(form), shape_of(board)), (shape, shape))

    def test_example(self):
        form = board_form(Board(4, (4, 4), (3, 2, 1, 0, 2, 3, 0, 1, 1, 0, 3, 2, 0, 1, 2, 3)))
        self.assertEqual((form.names, form.base), (((3, 2, 1, 0), (3, 2, 1, 0)), 3))
        self.assertEqual(form.knots, (("bare", (0, 1), (3, 2, 1, 0, 2, 3, 0, 1, 1, 0, 3, 2, 0, 1, 2, 3)),))
        self.assertEqual(form((1, 2)), 0)
        self.assertEqual(form.text(), "marks 4\npart 3210\npart 3210\nbare 0 1 3210230110320123")

    def test_knots_stand_behind_those_that_they_read(self):
        board = tree_board(4, ("free", (0, ("bare", (1, 3)), ("bare", (2, 4)))), {"free": FOUR, "bare": BITS})
        form = board_form(board)
        self.assertEqual([(kind, wires) for kind, wires, _ in form.knots], [("bare", (1, 3)), ("bare", (2, 4)), ("free", (0, 5, 6))])
        self.assertEqual(form_lots(form), ((0,), (1,), (2,), (3,), (4,), (1, 3), (2, 4), (0, 1, 2, 3, 4)))
        self.assertEqual(form.knots[2][2], FOUR)
        line = tree_board(6, ("line", (2, ("bare", (0, 3)), 1)), {"line": SIX, "bare": cycle_rows(6)})
        self.assertEqual([(kind, wires) for kind, wires, _ in board_form(line).knots], [("bare", (0, 3)), ("line", (1, 4, 2))])

    def test_not_fair(self):
        told_error(self, Refused, ("twice", 1, (0, 0), 1), board_form, Board(2, (2, 2), (0, 0, 1, 1)))
        told_error(self, Refused, ("size", 0), board_form, Board(2, (3, 2), (0,) * 6))

    def test_boards_that_are_too_great(self):
        xor = ("free", tuple(range(9)), cycle_rows(2))
        told_error(self, InvalidSize, "settings", form_board, Form(2, ((0, 1),) * 9, [xor]))
        eight = Form(2, ((0, 1),) * 8, [("free", tuple(range(8)), cycle_rows(2))])
        self.assertEqual(len(form_board(eight).marks), 256)
        told_error(self, InvalidSize, "settings", form_board, Form(8, (tuple(range(8)),) * 5, [("free", tuple(range(5)), EIGHT_BITS)]))
        self.assertEqual(len(form_board(Form(4, (tuple(range(4)),) * 7, [("free", tuple(range(7)), FOUR)])).marks), 16384)

    def test_alike_in_a_name_and_in_all_parts_not_beneath(self):
        rng = seeded(10)
        for board, _ in kinds_of_boards(rng):
            form = board_form(board)
            for _ in range(30):
                wire = rng.randrange(len(form_lots(form)))
                lot = form_lots(form)[wire]
                one = tuple(rng.randrange(board.many) for _ in range(len(board)))
                other = tuple(rng.randrange(board.many) if part in lot else content for part, content in enumerate(one))
                alike = form_marks(form, one)[wire] == form_marks(form, other)[wire]
                self.assertIs(board(one) == board(other), alike)


class TestMarks(unittest.TestCase):
    def test_needed_contents(self):
        for board, _ in kinds_of_boards(seeded(11)):
            form = board_form(board)
            for setting in settings_of(board.sizes)[::max(1, len(board.marks) // 12)]:
                for part in range(len(board)):
                    for mark in range(board.many):
                        content = needed_content(form, setting, part, mark)
                        self.assertEqual(board(setting[:part] + (content,) + setting[part + 1:]), mark)
                        self.assertEqual(needed_content(form=form, setting=list(setting), part=part, mark=mark), content)

    def test_settings(self):
        form = board_form(odd_board())
        self.assertEqual(form([1, 2, 3]), odd_board()((1, 2, 3)))
        self.assertEqual(form_marks(form=form, setting=[1, 2, 3]), form_marks(form, (1, 2, 3)))
        wrong = [((0, 0), -1), ((0, 0, 0, 0), -1), ("000", -1), (None, -1), ((0, 0, 4), 2), ([0, True, 9], 1), ((-1, 0, 0), 0), ((0, None, 0), 1)]
        for value, at in wrong + [(value, None) for value in any_values()]:
            for call in (form, lambda setting: form_marks(form, setting), lambda setting: needed_content(form, setting, None, None)):
                if at is not None:
                    told_error(self, InvalidSetting, at, call, value)
                elif value not in ((0, 1, 2), [0, 1, 2]):
                    with self.assertRaises(InvalidSetting):
                        call(value)

    def test_no_part_and_no_mark(self):
        form = board_form(sums_board())
        for value in any_values() + [4]:
            if not (type(value) is int and 0 <= value < 3):
                told_error(self, InvalidSize, "part", needed_content, form, (0, 0, 0), value, value)
            if not (type(value) is int and 0 <= value < 4):
                told_error(self, InvalidSize, "mark", needed_content, form, (0, 0, 0), 2, value)


class TestLimits(unittest.TestCase):
    def test_200_parts(self):
        started = time.time()
        rng = seeded(12)
        forms = []
        for many in (2, 3, 4, 8):
            names = [(0, *rng.sample(range(1, many), many - 1)) for _ in range(200)]
            knots = [("free", tuple(range(200)), cycle_rows(many))]
            forms.append(Form(many, names, knots))
        chain = []
        for part in range(199, 0, -1):
            wire = 200 + len(chain) - 1
            rows = EIGHT_BITS if part % 2 else cycle_rows(8)
            chain.append(("bare", (part - 1, part if part == 199 else wire), flat(rows)))
        forms.append(Form(8, (tuple(range(8)),) * 200, chain))
        odd = unit_odd(rng, 3, 0)
        wide = [("bare", (3 * at, 3 * at + 1, 3 * at + 2), odd) for at in range(66)]
        forms.append(Form(4, NAMES[:1] * 198, wide + [("free", tuple(range(198, 264)), FOUR)]))
        for form in forms:
            self.assertEqual(Form.read(form.text()), form)
            told_error(self, InvalidSize, "settings", form_board, form)
            setting = [rng.randrange(form.many) for _ in range(len(form))]
            self.assertEqual(form(setting), marks_of(form.many, form.names, form.knots, setting)[-1])
            for part in (0, 100, len(form) - 1):
                setting[part] = needed_content(form, setting, part, 1)
                self.assertEqual(form(setting), 1)
            self.assertEqual(form_lots(form)[-1], tuple(range(len(form))))
            self.assertEqual(leaves(form_shape(form))[-1], len(form) - 1)
        self.assertLess(time.time() - started, 20)
        told_error(self, InvalidForm, ("names", -1), Form, 2, ((0, 1),) * 201, [("free", tuple(range(201)), cycle_rows(2))])

    def test_great_bare_knots(self):
        rng = seeded(13)
        table = unit_odd(rng, 4, 2)
        form = Form(4, ((2, 0, 1, 3),) * 4, [("bare", (0, 1, 2, 3), table)])
        self.assertEqual(board_form(form_board(form)), form)
        eight = [x ^ y ^ z ^ int(max(x, y, z) < 2) for x, y, z in settings_of((8, 8, 8))]
        form = board_form(Board(8, (8, 8, 8), eight))
        self.assertEqual(form_shape(form), ("bare", (0, 1, 2)))
        self.assertEqual(form_board(form).marks, tuple(eight))
        self.assertEqual(inner_lots(form_shape(form)), [(0,), (0, 1, 2), (1,), (2,)])


if __name__ == "__main__":
    unittest.main()
