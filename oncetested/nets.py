"""Nets: locks made of small tables, never laid out."""

from oncetested.boards import MOST_PARTS, MOST_SETTINGS, Board, all_settings, need_setting, steps_of
from oncetested.errors import InvalidNet, InvalidSize, InvalidText, Refused
from oncetested.values import is_between, is_figures, is_sequence, power_of, read_number, union_of, wrong_place

NET_PARTS = 200
NET_ROWS = 400
MOST_WIRES = 3


class Net:
    """Parts, and rows (table, wires) that each bring one further wire its mark."""

    def __init__(self, many, parts, rows):
        if not is_between(many, 2, 8):
            raise InvalidNet("many")
        if not is_between(parts, 1, NET_PARTS):
            raise InvalidNet("parts")
        if not is_sequence(rows) or len(rows) > NET_ROWS:
            raise InvalidNet(("rows", -1))
        read = {}
        for number, row in enumerate(rows):
            if not is_net_row(many, parts + number, row) or any([wire in read for wire in row[1]]):
                raise InvalidNet(("rows", number))
            for wire in row[1]:
                read[wire] = True
        # Each wire is read once at most, so one unread wire is the last one.
        if len(read) != parts + len(rows) - 1:
            raise InvalidNet(-1)
        self.many = many
        self.parts = parts
        self.rows = tuple([(tuple(table), tuple(wires)) for table, wires in rows])
        self.sizes = (many,) * parts

    def __eq__(self, other):
        if not isinstance(other, Net):
            return False
        return self.many == other.many and self.parts == other.parts and self.rows == other.rows

    def __len__(self):
        return len(self.sizes)

    def __call__(self, setting):
        return net_marks(self, need_setting(self.sizes, setting))[-1]

    def text(self):
        """The net as rows of text."""
        rows = [f"net {self.many} {self.parts}"]
        for table, wires in self.rows:
            figures = [str(mark) for mark in table]
            words = ["".join(figures[at:at + self.many]) for at in range(0, len(figures), self.many)]
            rows.append(" ".join([str(wire) for wire in wires]) + ": " + " ".join(words))
        return "\n".join(rows)

    @staticmethod
    def read(text):
        """The net of such a text."""
        if not isinstance(text, str):
            raise InvalidText(-1)
        told = text.split("\n")
        many, parts = read_head(told[0])
        rows = []
        for at, row in enumerate(told):
            if at > 0:
                rows.append(read_net_row(many, at, row))
        return Net(many, parts, rows)


def read_head(row):
    """The numbers of marks and parts of row 0 of a text."""
    words = row.split(" ")
    if len(words) != 3 or words[0] != "net":
        raise InvalidText(0)
    many = read_number(words[1], 1)
    parts = read_number(words[2], 3)
    if not is_between(many, 2, 8) or not is_between(parts, 1, NET_PARTS):
        raise InvalidText(0)
    return many, parts


def read_net_row(many, at, row):
    """The net row of a row of text."""
    left, between, right = row.partition(": ")
    wires = [read_number(word, 3) for word in left.split(" ")]
    words = right.split(" ")
    if between == "" or len(wires) > MOST_WIRES or None in wires:
        raise InvalidText(at)
    if not all([is_figures(word) and len(word) == many for word in words]):
        raise InvalidText(at)
    return [int(figure) for figure in "".join(words)], wires


def is_wires(value, many):
    """Whether any value is a sequence of one to three unlike wires below a number."""
    if not is_sequence(value) or not 1 <= len(value) <= MOST_WIRES:
        return False
    return wrong_place([many] * len(value), value) is None and len(set(value)) == len(value)


def is_full_table(many, count, table):
    """Whether each of so many wires, the others held anyhow, brings all marks, each once."""
    sizes = [many] * count
    for step in steps_of(sizes):
        for number in range(len(table)):
            if number // step % many == 0:
                line = [table[number + step * content] for content in range(many)]
                if len(set(line)) < many:
                    return False
    return True


def is_net_row(many, wires, row):
    """Whether any value is a row of a net behind so many wires."""
    if not isinstance(row, tuple) or len(row) != 2 or not is_wires(row[1], wires):
        return False
    count = len(row[1])
    if wrong_place([many] * power_of(many, count), row[0]) is not None:
        return False
    return is_full_table(many, count, row[0])


def net_marks(net, setting):
    """What each wire brings."""
    marks = list(setting)
    for table, wires in net.rows:
        at = 0
        for wire in wires:
            at = at * net.many + marks[wire]
        marks.append(table[at])
    return tuple(marks)


def net_lots(net):
    """For each wire the lot of the parts beneath it."""
    lots = [(part,) for part in range(net.parts)]
    for _, wires in net.rows:
        lots.append(union_of([lots[wire] for wire in wires]))
    return tuple(lots)


def net_board(net):
    """The board with the marks of a net."""
    if net.parts > MOST_PARTS or power_of(net.many, net.parts) > MOST_SETTINGS:
        raise InvalidSize("settings")
    marks = [net_marks(net, setting)[-1] for setting in all_settings(net.sizes)]
    return Board(net.many, net.sizes, marks)


def led_table(many, table, rows):
    """The table in which the contents of each wire stand for those of a row; a row of one content leaves it out."""
    numbers = [0]
    for row in rows:
        numbers = [number * many + content for number in numbers for content in row]
    return tuple([table[number] for number in numbers])


def lean_net(net):
    """A net alike without rows of one wire; one part alone may need one."""
    idle = tuple(range(net.many))
    # For each wire the new wire and what its marks stand for: rows of one wire are put off in this way.
    wires = [(part, idle) for part in range(net.parts)]
    rows = []
    for table, read in net.rows:
        if len(read) == 1:
            wire, row = wires[read[0]]
            wires.append((wire, led_table(net.many, table, [row])))
        else:
            led = led_table(net.many, table, [wires[wire][1] for wire in read])
            wires.append((net.parts + len(rows), idle))
            rows.append((led, tuple([wires[wire][0] for wire in read])))
    _, row = wires[-1]
    if row != idle and rows:
        table, read = rows.pop()
        rows.append((tuple([row[mark] for mark in table]), read))
    elif row != idle:
        rows.append((row, (0,)))
    return Net(net.many, net.parts, rows)


def moved_rows(net, wires):
    """The rows of a net with new numbers of its wires."""
    return [(table, tuple([wires[wire] for wire in read])) for table, read in net.rows]


def put_net(outer, part, inner):
    """The net with the parts of an inner net in the place of a part, whose content is the inner net's mark."""
    if outer.many != inner.many:
        raise Refused(part)
    parts = outer.parts - 1 + inner.parts
    if parts > NET_PARTS:
        raise InvalidSize("parts")
    # Without rows of one wire there never are too many rows.
    outer = lean_net(outer)
    inner = lean_net(inner)
    first = parts + len(inner.rows)
    inside = [part + wire for wire in range(inner.parts)] + [parts + row for row in range(len(inner.rows))]
    outside = [wire if wire < part else wire + inner.parts - 1 for wire in range(outer.parts)]
    outside[part] = inside[-1]
    outside.extend([first + row for row in range(len(outer.rows))])
    return Net(outer.many, parts, moved_rows(inner, inside) + moved_rows(outer, outside))


def held_net(net, part, content):
    """The net with a part held at a content and left out."""
    if net.parts == 1:
        raise Refused(part)
    held = {part: content}
    wires = [wire if wire < part else wire - 1 for wire in range(net.parts)]
    contents = list(range(net.many))
    rows = []
    for number, (table, read) in enumerate(net.rows):
        led = led_table(net.many, table, [[held[wire]] if wire in held else contents for wire in read])
        left = tuple([wires[wire] for wire in read if wire not in held])
        wires.append(net.parts - 1 + len(rows))
        if left:
            rows.append((led, left))
        else:
            held[net.parts + number] = led[0]
    return Net(net.many, net.parts - 1, rows)


def led_net(net, part, row):
    """The net in which a part's content c stands for row[c]."""
    contents = list(range(net.many))
    rows = []
    for table, read in net.rows:
        rows.append((led_table(net.many, table, [row if wire == part else contents for wire in read]), read))
    if not rows:
        rows.append((tuple(row), (part,)))
    return Net(net.many, net.parts, rows)


def turned_net(net, order):
    """The net whose part i is the elder part order[i]."""
    wires = list(range(net.parts + len(net.rows)))
    for part, elder in enumerate(order):
        wires[elder] = part
    return Net(net.many, net.parts, moved_rows(net, wires))
