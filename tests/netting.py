"""Random nets for several tests."""

from oncetested.nets import Net
from support import latin, settings_of


def random_table(rng, many, count):
    """A table of so many wires, each of which brings all marks, the others held anyhow."""
    rows = [rng.sample(range(many), many) for _ in range(count)]
    squares = [latin(rng, many) for _ in range(count - 1)]
    table = []
    for setting in settings_of((many,) * count):
        mark = rows[0][setting[0]]
        for square, row, content in zip(squares, rows[1:], setting[1:]):
            mark = square[mark][row[content]]
        table.append(mark)
    return table


def random_net(rng, many, parts, most=3, single=0.2):
    """A net of so many parts."""
    wires = list(range(parts))
    rows = []
    while len(wires) > 1 or rng.random() < single:
        count = 1 if rng.random() < single else min(len(wires), rng.randint(2, max(2, most)))
        read = rng.sample(wires, count)
        rows.append((random_table(rng, many, count), tuple(read)))
        wires = [wire for wire in wires if wire not in read] + [parts + len(rows) - 1]
    return Net(many, parts, rows)


def remade(rng, net):
    """A net of the same make with other tables."""
    return Net(net.many, net.parts, [(random_table(rng, net.many, len(wires)), wires) for _, wires in net.rows])


def run(net, setting):
    """What each wire brings, by hand."""
    marks = list(setting)
    for table, wires in net.rows:
        number = 0
        for wire in wires:
            number = number * net.many + marks[wire]
        marks.append(table[number])
    return tuple(marks)
