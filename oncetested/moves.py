"""Forms led, marked, turned, held and put into one another; the form of any tree of fair tables."""

from oncetested.boards import Board, need_lot, setting_number, steps_of
from oncetested.errors import InvalidSize, Refused
from oncetested.forms import FORM_PARTS, Form, knots_beneath, named_marks, rows_of
from oncetested.groups import open_triple, turned_rows
from oncetested.nets import led_table
from oncetested.renewals import undone_row
from oncetested.trees import shape_of


def zero_values(many, names, rows):
    """What each wire brings while all parts are at 0."""
    values = [row[0] for row in names]
    for wires, table in rows:
        values.append(table[setting_number([many] * len(wires), [values[wire] for wire in wires])])
    return values


def mark_rows(many, parts, rows, values):
    """For each wire the marks that its values bring while all else is at 0."""
    brought = [list(range(many)) for _ in values]
    for number in reversed(range(len(rows))):
        wires, table = rows[number]
        above = brought[parts + number]
        for at, wire in enumerate(wires):
            told = [[values[other]] for other in wires]
            told[at] = list(range(many))
            brought[wire] = [above[value] for value in led_table(many, table, told)]
    return brought


def named_table(many, row, brought, above):
    """The table of a row by names: the marks that the values of its wires bring."""
    wires, table = row
    return tuple([above[value] for value in led_table(many, table, [undone_row(brought[wire]) for wire in wires])])


def square_rows(many, table):
    """The rows of a group that a table of two wires is, or None."""
    rows = rows_of(many, table)
    return rows if open_triple(rows) is None else None


def table_knots(many, base, count, table):
    """The knots (wires, table) of a table by names; groups have a table of the first two wires alone."""
    if count == 2:
        return [((0, 1), table)]
    # With 0 and the unit exchanged the zeros of a board bring the unit.
    row = list(range(many))
    row[0], row[base] = row[base], row[0]
    board = Board(many, (many,) * count, led_table(many, table, [row] * count))
    told = []
    knots_beneath(shape_of(board), told, count)
    knots = []
    for kind, wires, firsts in told:
        read = firsts if kind == "bare" else firsts[:2]
        knots.append((wires, named_marks(board, [row] * count, read)))
    return knots


def knit_wires(nodes, group, wires):
    """The wires of a knot, with those of knots of its own group in their place."""
    knit = []
    for wire in wires:
        inner = nodes[wire][0]
        if inner == group:
            knit.extend(nodes[wire][1])
        elif inner is not None and inner == turned_rows(group):
            knit.extend(nodes[wire][1][::-1])
        else:
            knit.append(wire)
    return tuple(knit)


def tied_wire(many, nodes, wires, table):
    """The wire of a new knot, which is put behind nodes: triples of a group or None, wires, and the other table."""
    # More than two wires with a table of two are those of a line or a free knot, which has a group.
    group = square_rows(many, table) if len(table) == many * many else None
    if group is None:
        nodes.append((None, tuple(wires), table))
    else:
        nodes.append((group, knit_wires(nodes, group, wires), None))
    return len(nodes) - 1


def row_wire(many, base, nodes, wires, table):
    """The wire of a row of a tree, whose table by names is tied to nodes, knot by knot."""
    if len(wires) == 1:
        # By names a row of one wire brings what it reads.
        return wires[0]
    beneath = list(wires)
    for read, knot_table in table_knots(many, base, len(wires), table):
        beneath.append(tied_wire(many, nodes, [beneath[at] for at in read], knot_table))
    return beneath[-1]


def least_beneath(nodes):
    """The least part beneath each node."""
    firsts = []
    for number, (_, wires, _) in enumerate(nodes):
        firsts.append(min([firsts[wire] for wire in wires]) if wires else number)
    return firsts


def stood_table(many, table, order):
    """A table whose wire i is the wire order[i]."""
    steps = steps_of([many] * len(order))
    numbers = [0]
    for at in order:
        numbers = [number + steps[at] * name for number in numbers for name in range(many)]
    return tuple([table[number] for number in numbers])


def stood_knot(many, firsts, node):
    """A node as a knot of a form, its wires in their order."""
    group, wires, table = node
    ranked = sorted([(firsts[wire], at) for at, wire in enumerate(wires)])
    order = [at for _, at in ranked]
    if group is None:
        return "bare", [wires[at] for at in order], stood_table(many, table, order)
    rows = group
    turned = turned_rows(group)
    if group == turned:
        wires = [wires[at] for at in order]
    elif firsts[wires[0]] > firsts[wires[-1]]:
        wires = wires[::-1]
        rows = turned
    if len(wires) == 2:
        return "bare", wires, tuple([name for row in rows for name in row])
    return "free" if group == turned else "line", wires, rows


def stood_knots(many, parts, nodes, root):
    """The knots of a form over nodes, each behind those beneath it, in order."""
    firsts = least_beneath(nodes)
    found = []
    waiting = [root]
    while waiting:
        node = waiting.pop()
        if node >= parts:
            found.append((node, stood_knot(many, firsts, nodes[node])))
            waiting.extend(found[-1][1][1])
    # Each knot was found ahead of those beneath it, and the last of these ahead of the others.
    numbers = list(range(parts)) + [0] * (len(nodes) - parts)
    knots = []
    for node, (kind, wires, table) in found[::-1]:
        numbers[node] = parts + len(knots)
        knots.append((kind, [numbers[wire] for wire in wires], table))
    return knots


def tidy_form(many, names, rows):
    """The form of a tree of fair tables: rows are pairs of wires and a table."""
    parts = len(names)
    values = zero_values(many, names, rows)
    brought = mark_rows(many, parts, rows, values)
    base = values[-1]
    nodes = [(None, (), None) for _ in range(parts)]
    wires = list(range(parts))
    for number, row in enumerate(rows):
        table = named_table(many, row, brought, brought[parts + number])
        wires.append(row_wire(many, base, nodes, [wires[wire] for wire in row[0]], table))
    told = [[brought[part][value] for value in row] for part, row in enumerate(names)]
    return Form(many, told, stood_knots(many, parts, nodes, wires[-1]))


def product_rows(parts, rows, wires, first, table):
    """Put rows of two wires behind rows of a tree that make a product of wires, those of some numbers first."""
    steps = [(number, True) for number in first[1:]]
    steps.extend([(number, False) for number in reversed(range(first[0]))])
    steps.extend([(number, True) for number in range(first[0] + 1, len(wires)) if number not in first])
    here = wires[first[0]]
    for number, behind in steps:
        rows.append(((here, wires[number]) if behind else (wires[number], here), table))
        here = parts + len(rows) - 1


def gathered_rows(form, wires, parts, rows, gathered):
    """Put a form's knots behind rows of a tree of so many parts, those of groups as rows of two wires.

    The parts of the form are some wires of this tree; told are the wires of all its own. Of knots of groups it may be
    told by their numbers which of their children, neighbours if in line, come first.
    """
    wires = list(wires)
    for number, (kind, read, table) in enumerate(form.knots):
        beneath = tuple([wires[wire] for wire in read])
        if kind == "bare":
            rows.append((beneath, table))
        else:
            flat = tuple([name for row in table for name in row])
            product_rows(parts, rows, beneath, gathered.get(number, (0,)), flat)
        wires.append(parts + len(rows) - 1)
    return wires


def laid_rows(form, wires, parts, rows):
    """Put a form's knots behind rows of a tree, as gathered_rows does, with nothing told of their children."""
    return gathered_rows(form, wires, parts, rows, {})


def led_form(form, part, row):
    """The form in which a part's contents stand for those of a row."""
    names = list(form.names)
    names[part] = [form.names[part][content] for content in row]
    rows = []
    laid_rows(form, list(range(len(form))), len(form), rows)
    return tidy_form(form.many, names, rows)


def marked_form(form, row):
    """The form in which mark m has become row[m]."""
    rows = []
    wires = laid_rows(form, list(range(len(form))), len(form), rows)
    rows.append(((wires[-1],), row))
    return tidy_form(form.many, form.names, rows)


def turned_form(form, order):
    """The form whose part i is the part order[i]."""
    rows = []
    laid_rows(form, undone_row(order), len(form), rows)
    return tidy_form(form.many, [form.names[part] for part in order], rows)


def put_form(outer, part, inner):
    """The form with the parts of an inner one in the place of a part, whose content is the inner one's mark."""
    if outer.many != inner.many:
        raise Refused(part)
    parts = len(outer) - 1 + len(inner)
    if parts > FORM_PARTS:
        raise InvalidSize("parts")
    inside = [part + own for own in range(len(inner))]
    rows = []
    wires = laid_rows(inner, inside, parts, rows)
    rows.append(((wires[-1],), outer.names[part]))
    outside = [own if own < part else own + len(inner) - 1 for own in range(len(outer))]
    outside[part] = parts + len(rows) - 1
    laid_rows(outer, outside, parts, rows)
    return tidy_form(outer.many, outer.names[:part] + inner.names + outer.names[part + 1:], rows)


def left_form(form, told):
    """The form of the other parts, some being held at told contents, not all."""
    rows = []
    laid_rows(form, list(range(len(form))), len(form), rows)
    values = {part: form.names[part][told[part]] for part in told}
    left = [part for part in range(len(form)) if part not in told]
    wires = {part: at for at, part in enumerate(left)}
    names = list(range(form.many))
    kept = []
    for number, (read, table) in enumerate(rows):
        wire = len(form) + number
        table = led_table(form.many, table, [[values[other]] if other in values else names for other in read])
        others = tuple([wires[other] for other in read if other not in values])
        if others:
            wires[wire] = len(left) + len(kept)
            kept.append((others, table))
        else:
            values[wire] = table[0]
    return tidy_form(form.many, [form.names[part] for part in left], kept)


def near_form(form, lot):
    """The form of a lot's parts, the others at 0."""
    lot = need_lot(form, lot)
    return left_form(form, {part: 0 for part in range(len(form)) if part not in lot})
