"""The shapes of fair boards, and what is told of them: noes of three, common shapes, swung boards."""

from itertools import combinations

from oncetested.boards import Board, all_settings, setting_number
from oncetested.fair import need_fair
from oncetested.looks import replaced
from oncetested.shapes import inner_hull, is_leaf, parts_of
from oncetested.values import lot_bits


def pairs_below(many):
    """All pairs of parts below a number, ascending."""
    return list(combinations(range(many), 2))


def overlap(one, other):
    """Whether two lots, as bits, meet and each one has parts that the other one has not."""
    meet = one & other
    return meet != 0 and meet != one and meet != other


def hanging_lots(lots):
    """Unlike lots, as bits, in rows of those that hang together by overlapping."""
    left = sorted(set(lots))
    rows = []
    while left:
        row = [left.pop()]
        at = 0
        while at < len(row):
            here = row[at]
            row.extend([lot for lot in left if overlap(lot, here)])
            left = [lot for lot in left if not overlap(lot, here)]
            at += 1
        rows.append(row)
    return rows


def unparted_lots(lots):
    """The parts of some lots in the lots of those that none of them parts, by the least part."""
    found = {}
    for part in range(max(lots).bit_length()):
        marks = tuple([lot >> part & 1 for lot in lots])
        if any(marks):
            found[marks] = found.get(marks, 0) + (1 << part)
    return list(found.values())


def made_lots(one, other):
    """What two overlapping lots make: steps without numbers, and lots."""
    meet = one & other
    return ("meet", True, meet), ("both", True, one | other), ("less", True, one - meet), ("less", False, other - meet)


def grown_lots(lots, most):
    """Lots with those that overlapping ones make, in this order, until there are more than so many.

    Each has the step that makes it of earlier ones by their numbers, or None.
    """
    found = {lot: None for lot in lots}
    rows = list(found)
    at = 0
    while at < len(rows) <= most:
        for other in range(at):
            if overlap(rows[at], rows[other]):
                for name, straight, lot in made_lots(rows[at], rows[other]):
                    if lot not in found:
                        found[lot] = (name, at, other) if straight else (name, other, at)
                        rows.append(lot)
        at += 1
    return found


def lots_beside(lot, children, grown):
    """The other children whose union with one of them is among some lots."""
    return [other for other in children if other != lot and lot + other in grown]


def line_order(lots, children):
    """The children of the knot of lots that hang together, along its line, or None if it is free."""
    most = len(children) * (len(children) + 1) // 2
    grown = grown_lots(children + lots, most)
    # A line has just as many stretches as this; a free knot has more lots.
    if len(grown) > most:
        return None
    ends = [child for child in children if len(lots_beside(child, children, grown)) == 1]
    order = ends[:1]
    while len(order) < len(children):
        further = [child for child in lots_beside(order[-1], children, grown) if child not in order]
        order.extend(further)
    return order


def ordered_knot(kind, children):
    """The knot of a kind with children that stand in their order, those of a line along it from either end."""
    firsts = [parts_of(child)[0] for child in children]
    if kind != "line":
        return kind, tuple([children[firsts.index(first)] for first in sorted(firsts)])
    if firsts[0] > firsts[-1]:
        return kind, tuple(children[::-1])
    return kind, tuple(children)


def strong_children(strong, lot):
    """The greatest strong lots, as bits, within one of them."""
    children = []
    for other in strong[::-1]:
        # A lot is a greater number than each one within it, so from the end on the greatest come first.
        if other != lot and other & lot == other and not any([other & child for child in children]):
            children.append(other)
    return children


def tree_of(strong, knots, lot):
    """The leaf or knot of a strong lot; the knots that are not bare are told."""
    if lot & (lot - 1) == 0:
        return lot.bit_length() - 1
    kind, children = knots.get(lot, ("bare", strong_children(strong, lot)))
    return ordered_knot(kind, [tree_of(strong, knots, child) for child in children])


def closed_tree(many, lots):
    """The shape of many parts whose inner lots are all that some lots, as bits, make."""
    strong = [1 << part for part in range(many)] + [(1 << many) - 1]
    knots = {}
    # Lots that overlap are made of children of one knot, so each row of hanging ones has a knot of its own.
    for row in hanging_lots(lots):
        if len(row) == 1:
            strong.append(row[0])
        else:
            children = unparted_lots(row)
            whole = sum(children)
            order = line_order(row, children)
            knots[whole] = ("free", children) if order is None else ("line", order)
            strong.extend(children + [whole])
    return tree_of(sorted(set(strong)), knots, (1 << many) - 1)


def common_hull(one, other, lot):
    """The least lot above a lot that is inner in both shapes."""
    wider = inner_hull(other, inner_hull(one, lot))
    while wider != lot:
        lot = wider
        wider = inner_hull(other, inner_hull(one, lot))
    return lot


def common_shape(one, other):
    """The shape whose inner lots are those that both shapes have."""
    many = len(parts_of(one))
    return closed_tree(many, [lot_bits(common_hull(one, other, pair)) for pair in pairs_below(many)])


def block_marks(board, pair, base):
    """The marks of all contents of a pair of parts, the others as at the setting of a number with these at 0."""
    one, other = pair
    return [board.marks[base + board.steps[one] * x + board.steps[other] * z]
            for x in range(board.many) for z in range(board.many)]


def is_three_no(board, pair, part):
    """Whether some change of a pair of parts of a fair board stays at one content of a part and not at another one."""
    steps = [board.steps[place] for place in (pair[0], pair[1], part)]
    for base in range(len(board.marks)):
        if not any([base // step % board.many for step in steps]):
            first = block_marks(board, pair, base)
            for content in range(1, board.many):
                other = block_marks(board, pair, base + board.steps[part] * content)
                # The same changes stay if each mark goes with just one.
                if len(set(list(zip(first, other)))) > board.many:
                    return True
    return False


def three_nos(board):
    """All noes of three of a fair board, ascending."""
    need_fair(board)
    nos = []
    for pair in pairs_below(len(board)):
        for part in range(len(board)):
            if part not in pair and is_three_no(board, pair, part):
                nos.append((pair, part))
    return tuple(nos)


def hull_by_nos(nos, lot):
    """The least lot above a lot that has the outer part of each no of which it has the pair; all as bits."""
    wider = lot
    for pair, part in nos:
        if pair & wider == pair:
            wider = wider | part
    return lot if wider == lot else hull_by_nos(nos, wider)


def shape_by_nos(many, nos):
    """The shape of a fair board of many parts, told all its noes of three."""
    told = [(lot_bits(pair), 1 << part) for pair, part in nos]
    return closed_tree(many, [hull_by_nos(told, lot_bits(pair)) for pair in pairs_below(many)])


def shape_of(board):
    """The shape whose inner lots are the one-test lots of a fair board."""
    return shape_by_nos(len(board), three_nos(board))


def swung_board(board, part):
    """The board in which a part's contents and the marks have changed places."""
    need_fair(board)
    marks = [0] * len(board.marks)
    for number, setting in enumerate(all_settings(board.sizes)):
        marks[setting_number(board.sizes, replaced(setting, part, board.marks[number]))] = setting[part]
    return Board(board.many, board.sizes, marks)


def hung_tree(tree, part, above):
    """The tree hung at the leaf of a part, with a tree in the place of its mark."""
    if is_leaf(tree):
        return above
    kind, children = tree
    at = [part in parts_of(child) for child in children].index(True)
    # Along a line that is closed to a ring by the mark, the others come behind the child that brings it now.
    others = children[at + 1:] + (above,) + children[:at]
    return hung_tree(children[at], part, ordered_knot(kind, others))


def swung_shape(shape, part):
    """The shape of the swung boards of all boards of a shape."""
    return hung_tree(shape, part, part)
