"""Noes of great nets in which few parts change, and nets that bring a one-test lot together in one wire."""

from oncetested.boards import is_setting, joined_setting, need_lot, rest_of
from oncetested.forms import form_board, form_lots, form_shape
from oncetested.moves import gathered_rows, near_form
from oncetested.nets import Net, lean_net, net_lots
from oncetested.readings import least_no
from oncetested.shapes import is_inner, least_tree, lot_place, parts_of
from oncetested.strong import net_form


def parts_told(tree, lot, inside):
    """The parts of a leaf or knot that a lot has, or has not, as told."""
    return [part for part in parts_of(tree) if (part in lot) == inside]


def gap_trees(children, lot):
    """Two children that a lot has, and one, between them if in line, that it has not; it has whole ones alone."""
    met = [number for number, child in enumerate(children) if parts_told(child, lot, True)]
    gaps = [number for number in range(len(children)) if number not in met]
    found = (met[0], met[1], gaps[0])
    for one, other in zip(met, met[1:]):
        if other > one + 1:
            found = (one, other, one + 1)
    return [children[number] for number in found]


def parted_children(child, lot):
    """Two children of a knot: of the first a lot has parts, of the second one it has not all."""
    for one in child[1]:
        for other in child[1]:
            if one != other and parts_told(one, lot, True) and parts_told(other, lot, False):
                return one, other
    return child[1][0], child[1][1]


def third_child(knot, trees):
    """The child of a bare knot of three that is none of two told ones, or None."""
    taken = [parts_of(tree)[0] for tree in trees]
    left = [child for child in knot[1] if not any([part in parts_of(child) for part in taken])]
    return left[0] if knot[0] == "bare" and len(knot[1]) == 3 else None


def telling_parts(shape, lot):
    """Some parts, three or four, of which a lot that is not one-test has some that are not, the others being at 0.

    They come in rows: if the first one does not do, the second one does.
    """
    knot = least_tree(shape, lot)
    partial = [child for child in knot[1] if parts_told(child, lot, True) and parts_told(child, lot, False)]
    if not partial:
        one, other, gap = gap_trees(knot[1], lot)
        return [(parts_of(one)[0], parts_of(other)[0], parts_of(gap)[0])]
    child = partial[0]
    one, other = parted_children(child, lot)
    beside = [tree for tree in knot[1] if tree != child and parts_told(tree, lot, True)][0]
    three = (parts_told(one, lot, True)[0], parts_told(beside, lot, True)[0], parts_told(other, lot, False)[0])
    rows = [three]
    # Beside 0 of its third child a bare knot may be that of a group, and seem to grow together with the other knot.
    for above, trees in ((child, (one, other)), (knot, (child, beside))):
        third = third_child(above, trees)
        if third is not None:
            rows.append(three + (parts_of(third)[0],))
    return rows


def near_parted(form, parts, lot):
    """The least no of what a lot has of some parts of a form, the others being at 0, as dicts by parts; or None."""
    parts = sorted(parts)
    board = form_board(near_form(form, parts))
    inside = [at for at, part in enumerate(parts) if part in lot]
    outside = rest_of(board, inside)
    no = least_no(board, inside)
    if no is None:
        return None
    told = []
    for places, contents in zip((inside, inside, outside, outside), no):
        told.append({parts[at]: content for at, content in zip(places, contents)})
    return told


def spread_no(net, lot, told):
    """The no of which the contents are told by parts, the others being at 0."""
    rest = rest_of(net, lot)
    no = []
    for row, contents in zip((lot, lot, rest, rest), told):
        no.append(tuple([contents.get(part, 0) for part in row]))
    return tuple(no)


def net_no(net, lot):
    """None for a one-test lot, else a no in which at most two parts of the lot change, and four are not at 0."""
    lot = need_lot(net, lot)
    form = net_form(net)
    shape = form_shape(form)
    if is_inner(shape, lot):
        return None
    for parts in telling_parts(shape, lot):
        told = near_parted(form, parts, lot)
        if told is not None:
            return spread_no(net, lot, told)
    return None


def net_no_holds(net, lot, value):
    """Whether any value is a no of a lot."""
    lot = need_lot(net, lot)
    if not isinstance(value, tuple) or len(value) != 4:
        return False
    inside = [net.many] * len(lot)
    outside = [net.many] * (len(net) - len(lot))
    fits = [is_setting(sizes, value[at]) for at, sizes in enumerate((inside, inside, outside, outside))]
    if not all(fits) or value[0] >= value[1]:
        return False
    u, v, w, x = value
    stays = [net(joined_setting(net, lot, u, place)) == net(joined_setting(net, lot, v, place)) for place in (w, x)]
    return stays == [True, False]


def gathered_net(net, lot):
    """Some net alike in which one wire has just the parts of a lot beneath it, or None."""
    lot = need_lot(net, lot)
    form = net_form(net)
    place = lot_place(form_shape(form), lot)
    if place is None:
        return None
    parts = len(form)
    gathered = {number - parts: place[1] for number, beneath in enumerate(form_lots(form)) if beneath == place[0]}
    rows = [((part,), form.names[part]) for part in range(parts)]
    gathered_rows(form, [parts + part for part in range(parts)], parts, rows, gathered)
    return lean_net(Net(form.many, parts, [(table, wires) for wires, table in rows]))


def gathered_holds(net, lot, value):
    """Whether any value is a net alike in which one wire has just the parts of a lot beneath it."""
    lot = need_lot(net, lot)
    if not isinstance(value, Net) or value.many != net.many or value.parts != net.parts:
        return False
    return lot in net_lots(value) and net_form(value) == net_form(net)
