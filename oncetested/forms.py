"""Forms: one tree of small tables for each fair board."""

from oncetested.boards import MOST_PARTS, MOST_SETTINGS, Board, all_settings, need_setting
from oncetested.errors import InvalidForm, InvalidSize, InvalidTable, InvalidText
from oncetested.fair import is_fair, need_fair
from oncetested.groups import Group, is_commutative, open_triple, turned_rows
from oncetested.shapes import FEWEST_CHILDREN, is_leaf
from oncetested.trees import shape_of
from oncetested.values import is_below, is_between, is_figures, is_permutation, is_sequence, power_of, read_number
from oncetested.values import union_of, wrong_place

FORM_PARTS = 200


class Form:
    """The names of the parts' contents, and knots (kind, wires, table) that bring names of their own."""

    def __init__(self, many, names, knots):
        if not is_between(many, 2, 8):
            raise InvalidForm("many")
        at = wrong_names(many, names)
        if at is not None:
            raise InvalidForm(("names", at))
        base = names[0][0]
        at = wrong_knot(many, base, len(names), knots)
        if at is not None:
            raise InvalidForm(("knots", at))
        self.many = many
        self.names = tuple([tuple(row) for row in names])
        self.knots = tuple([kept_knot(knot) for knot in knots])
        self.base = base
        self.sizes = (many,) * len(names)

    def __eq__(self, other):
        if not isinstance(other, Form):
            return False
        return self.many == other.many and self.names == other.names and self.knots == other.knots

    def __len__(self):
        return len(self.names)

    def __call__(self, setting):
        return form_marks(self, setting)[-1]

    def text(self):
        """The form as rows of text."""
        rows = [f"marks {self.many}"]
        rows.extend(["part " + figures_of(row) for row in self.names])
        for kind, wires, table in self.knots:
            marks = table
            if kind != "bare":
                marks = [mark for row in table for mark in row]
            rows.append(" ".join([kind] + [str(wire) for wire in wires] + [figures_of(marks)]))
        return "\n".join(rows)

    @staticmethod
    def read(text):
        """The form of such a text."""
        if not isinstance(text, str):
            raise InvalidText(-1)
        rows = text.split("\n")
        words = rows[0].split(" ")
        if len(words) != 2 or words[0] != "marks" or read_number(words[1], 1) is None:
            raise InvalidText(0)
        many = int(words[1])
        # A row of parts that is missing is read as an empty one, which no row is.
        names = [read_names(1, rows[1] if len(rows) > 1 else "")]
        knots = []
        for at in range(2, len(rows)):
            if not knots and rows[at].startswith("part "):
                names.append(read_names(at, rows[at]))
            else:
                knots.append(read_knot(many, at, rows[at]))
        return Form(many, names, knots)


def figures_of(marks):
    """Marks as figures."""
    return "".join([str(mark) for mark in marks])


def read_names(at, row):
    """The names of a row of a text."""
    words = row.split(" ")
    if len(words) != 2 or words[0] != "part" or not is_figures(words[1]):
        raise InvalidText(at)
    return [int(figure) for figure in words[1]]


def read_knot(many, at, row):
    """The knot of a row of a text."""
    words = row.split(" ")
    wires = [read_number(word, 3) for word in words[1:-1]]
    if words[0] not in FEWEST_CHILDREN or not wires or None in wires or not is_figures(words[-1]):
        raise InvalidText(at)
    table = [int(figure) for figure in words[-1]]
    if words[0] != "bare":
        if len(table) != many * many:
            raise InvalidText(at)
        table = rows_of(many, table)
    return words[0], wires, table


def rows_of(many, marks):
    """The marks of a table of two wires, in rows."""
    return tuple([tuple(marks[at:at + many]) for at in range(0, len(marks), many)])


def wrong_names(many, names):
    """The first part of any value whose names are none, -1 for no sequence of 1 to 200 rows, or None."""
    if not is_sequence(names) or not 1 <= len(names) <= FORM_PARTS:
        return -1
    for part, row in enumerate(names):
        if not is_permutation(row, many) or row[0] != names[0][0]:
            return part
    return None


def is_knot(value):
    """Whether any value is a tuple of a kind, a sequence of enough wires, and something for a table."""
    if not isinstance(value, tuple) or len(value) != 3 or not isinstance(value[0], str) or not is_sequence(value[1]):
        return False
    return value[0] in FEWEST_CHILDREN and len(value[1]) >= FEWEST_CHILDREN[value[0]]


def wrong_knot(many, base, parts, knots):
    """The first knot of any value that is wrong, -1 for no sequence or another number of unread wires, or None."""
    if not is_sequence(knots):
        return -1
    # For each wire the least part beneath it, and its group.
    firsts = list(range(parts))
    groups = [None] * parts
    unread = list(range(parts))
    for number, knot in enumerate(knots):
        if not is_knot(knot) or not wires_stand(parts, firsts, unread, knot):
            return number
        kind, wires, table = knot
        if not is_right_table(many, base, kind, len(wires), table):
            return number
        group = group_rows(many, kind, len(wires), table)
        if group is not None and any([groups[wire] in (group, turned_rows(group)) for wire in wires]):
            return number
        unread = [wire for wire in unread if wire not in wires] + [len(firsts)]
        firsts.append(min([firsts[wire] for wire in wires]))
        groups.append(group)
    return None if len(unread) == 1 else -1


def wires_stand(parts, firsts, unread, knot):
    """Whether the wires of a knot are unread ones that stand in their order."""
    kind, wires, _ = knot
    for at, wire in enumerate(wires):
        if not is_below(wire, len(firsts)) or wire not in unread or wire in wires[:at]:
            return False
    inner = [wire for wire in wires if wire >= parts]
    waiting = [wire for wire in unread if wire >= parts]
    if inner != waiting[len(waiting) - len(inner):]:
        return False
    least = [firsts[wire] for wire in wires]
    return least[0] < least[-1] if kind == "line" else least == sorted(least)


def is_right_table(many, base, kind, count, table):
    """Whether any value is a table of a knot of this kind and number of wires."""
    if kind == "bare":
        return is_bare_table(many, base, count, table)
    if not is_sequence(table) or len(table) != many:
        return False
    try:
        group = Group(table)
    except InvalidTable:
        return False
    return group.unit == base and is_commutative(group) == (kind == "free")


def is_bare_table(many, base, count, table):
    """Whether any value is a table of a bare knot of so many wires."""
    if count > MOST_PARTS or power_of(many, count) > MOST_SETTINGS:
        return False
    if wrong_place([many] * power_of(many, count), table) is not None:
        return False
    board = Board(many, (many,) * count, table)
    for part in range(count):
        if line_marks(board, base, part) != list(range(many)):
            return False
    if not is_fair(board):
        return False
    return count == 2 or shape_of(board) == ("bare", tuple(range(count)))


def line_marks(board, base, part):
    """The marks of the contents of a part, the others at the base."""
    start = sum(board.steps) * base - board.steps[part] * base
    return [board.marks[start + board.steps[part] * content] for content in range(board.many)]


def group_rows(many, kind, count, table):
    """The group of a right knot, as rows, or None."""
    if kind != "bare":
        return tuple([tuple(row) for row in table])
    if count > 2:
        return None
    rows = rows_of(many, table)
    return rows if open_triple(rows) is None else None


def kept_knot(knot):
    """A right knot with tuples throughout."""
    kind, wires, table = knot
    if kind != "bare":
        table = [tuple(row) for row in table]
    return kind, tuple(wires), tuple(table)


def knot_mark(many, knot, marks):
    """The name that a knot brings, by the names of all wires ahead of it."""
    kind, wires, table = knot
    if kind == "bare":
        number = 0
        for wire in wires:
            number = number * many + marks[wire]
        return table[number]
    done = marks[wires[0]]
    for wire in wires[1:]:
        done = table[done][marks[wire]]
    return done


def form_marks(form, setting):
    """The names of all wires' values (any value)."""
    need_setting(form.sizes, setting)
    marks = [row[content] for row, content in zip(form.names, setting)]
    for knot in form.knots:
        marks.append(knot_mark(form.many, knot, marks))
    return tuple(marks)


def needed_content(form, setting, part, mark):
    """The content of a part that brings a mark, the others as in a setting (any values)."""
    contents = list(need_setting(form.sizes, setting))
    if not is_below(part, len(form)):
        raise InvalidSize("part")
    if not is_below(mark, form.many):
        raise InvalidSize("mark")
    brought = []
    for content in range(form.many):
        contents[part] = content
        brought.append(form(contents))
    return brought.index(mark)


def form_lots(form):
    """The lot of the parts beneath each wire."""
    lots = [(part,) for part in range(len(form))]
    for _, wires, _ in form.knots:
        lots.append(union_of([lots[wire] for wire in wires]))
    return tuple(lots)


def form_shape(form):
    """The shape of a form."""
    trees = list(range(len(form)))
    for kind, wires, _ in form.knots:
        trees.append((kind, tuple([trees[wire] for wire in wires])))
    return trees[-1]


def form_board(form):
    """The board that a form tells."""
    if len(form) > MOST_PARTS or power_of(form.many, len(form)) > MOST_SETTINGS:
        raise InvalidSize("settings")
    return Board(form.many, form.sizes, [form(setting) for setting in all_settings(form.sizes)])


def knots_beneath(tree, knots, parts):
    """The wire of a leaf or knot of a shape; knots (kind, wires, least parts beneath them) are put behind others."""
    if is_leaf(tree):
        return tree, tree
    kind, children = tree
    found = [knots_beneath(child, knots, parts) for child in children]
    firsts = [first for _, first in found]
    knots.append((kind, tuple([wire for wire, _ in found]), firsts))
    return parts + len(knots) - 1, min(firsts)


def named_marks(board, names, parts):
    """The marks by all names of some parts, the others at 0."""
    numbers = [0]
    for part in parts:
        steps = [board.steps[part] * names[part].index(name) for name in range(board.many)]
        numbers = [number + step for number in numbers for step in steps]
    return tuple([board.marks[number] for number in numbers])


def board_form(board):
    """The form of a fair board."""
    need_fair(board)
    names = [tuple([board.marks[step * content] for content in range(board.many)]) for step in board.steps]
    told = []
    knots_beneath(shape_of(board), told, len(board))
    knots = []
    for kind, wires, firsts in told:
        # All names of a wire are brought by its least part alone, the others beneath at 0.
        if kind == "bare":
            knots.append((kind, wires, named_marks(board, names, firsts)))
        else:
            knots.append((kind, wires, rows_of(board.many, named_marks(board, names, firsts[:2]))))
    return Form(board.many, names, knots)
