"""Lots that are told to be one-test in a fair board that nobody shows, and what follows from them."""

from math import comb, factorial

from oncetested.boards import Board
from oncetested.errors import InvalidSize
from oncetested.putting import turned_board
from oncetested.shapes import is_leaf, parts_of
from oncetested.trees import closed_tree, grown_lots, made_lots, overlap
from oncetested.values import bits_lot, is_below, lot_bits, same_value, union_of


def closed_shape(many, lots):
    """The shape whose inner lots are those that follow from told ones."""
    return closed_tree(many, [lot_bits(lot) for lot in lots])


def own_lots(many):
    """The lots of one part or of all."""
    return [(part,) for part in range(many)] + [tuple(range(many))]


def needed_lots(grown, lot):
    """The lots, as bits, that the steps to a lot go over, in the order in which they are made."""
    rows = list(grown)
    needed = {lot: True}
    for here in reversed(rows):
        if here in needed and grown[here] is not None:
            _, one, other = grown[here]
            needed[rows[one]] = True
            needed[rows[other]] = True
    return [here for here in rows if here in needed]


def fact_paper(many, lots, lot):
    """Some steps from told lots with a lot last, or None."""
    own = [lot_bits(each) for each in own_lots(many)]
    grown = grown_lots(own + [lot_bits(each) for each in lots], 1 << many)
    wanted = lot_bits(lot)
    if wanted not in grown:
        return None
    rows = list(grown)
    needed = needed_lots(grown, wanted)
    steps = []
    for here in needed:
        if grown[here] is not None:
            name, one, other = grown[here]
            steps.append((name, needed.index(rows[one]), needed.index(rows[other])))
        else:
            steps.append(("own" if here in own else "told", bits_lot(here)))
    return tuple(steps)


def made_by_step(made, step):
    """The lot, as bits, that any value makes as a step from two earlier lots, or None."""
    name, one, other = step
    if not is_below(one, len(made)) or not is_below(other, len(made)) or not overlap(made[one], made[other]):
        return None
    for known, straight, lot in made_lots(made[one], made[other]):
        if straight and name == known:
            return lot
    return None


def known_by_step(many, lots, step):
    """The lot, as bits, that any value names as a step, its own or a told one, or None."""
    name, lot = step
    known = []
    if name == "own":
        known = own_lots(many)
    elif name == "told":
        known = [tuple(each) for each in lots]
    return lot_bits(lot) if any([same_value(lot, each) for each in known]) else None


def fact_holds(many, lots, lot, value):
    """Whether any value is steps from told lots with a lot last."""
    if not isinstance(value, tuple):
        return False
    made = []
    for step in value:
        found = None
        if isinstance(step, tuple) and len(step) == 2:
            found = known_by_step(many, lots, step)
        elif isinstance(step, tuple) and len(step) == 3:
            found = made_by_step(made, step)
        if found is None:
            return False
        made.append(found)
    return len(made) > 0 and made[-1] == lot_bits(lot)


def turns_group(many):
    """The rows of sums modulo many."""
    return [[(x + y) % many for y in range(many)] for x in range(many)]


def bits_group(many):
    """The rows of sums of bits: 4 or 8 marks."""
    return [[x ^ y for y in range(many)] for x in range(many)]


def square_turns():
    """The rows of the eight turns of a square: those turned over have the third bit."""
    rows = []
    for x in range(8):
        # Behind a turn that turns over, others go the other way round.
        rows.append([(x + (-y if x & 4 else y)) % 4 + ((x ^ y) & 4) for y in range(8)])
    return rows


def odd_marks(tables):
    """The marks of a bare knot of three or more: sums of bits, but for the last bit where all are below 2."""
    rows = [(0, 1)]
    for table in tables:
        rows = [(done ^ mark, low & int(mark < 2)) for done, low in rows for mark in table]
    return [done ^ low for done, low in rows]


def group_marks(group, tables):
    """The products of marks of all tables, in order."""
    marks = tables[0]
    for table in tables[1:]:
        marks = [group[done][mark] for done in marks for mark in table]
    return marks


def laid_out(many, tree, depth):
    """The parts of a tree at a depth, and the marks by settings of these, for a board of its shape."""
    if is_leaf(tree):
        return [tree], list(range(many))
    kind, children = tree
    parts = []
    tables = []
    for child in children:
        beneath, table = laid_out(many, child, depth + 1)
        parts.extend(beneath)
        tables.append(table)
    if kind == "bare" and len(children) > 2:
        return parts, odd_marks(tables)
    if kind == "line":
        return parts, group_marks(square_turns(), tables)
    # Knots of one group would grow together, one in another; these two have no match.
    return parts, group_marks(turns_group(many) if depth % 2 else bits_group(many), tables)


def has_line(tree):
    """Whether a leaf or knot has a line in it."""
    return not is_leaf(tree) and (tree[0] == "line" or any([has_line(child) for child in tree[1]]))


def shape_board(shape):
    """Some fair board of a shape."""
    count = len(parts_of(shape))
    line = has_line(shape)
    if count > (4 if line else 7):
        raise InvalidSize("settings")
    many = 8 if line else 4
    parts, marks = laid_out(many, shape, 0)
    return turned_board(Board(many, (many,) * count, marks), [parts.index(part) for part in range(count)])


def line_stretches(many):
    """The fewest stretches that tell a line of many children, each from its first child to behind its last one."""
    if many % 2 == 0:
        return line_stretches(many - 1) + [(many - 2, many)]
    firsts = [0] + [first for first in range(1, many) if first % 2 == 1]
    return list(zip(firsts, [end for end in range(2, many) if end % 2 == 0] + [many]))


def free_choices(many):
    """The fewest choices of children that tell a free knot of many."""
    if many == 3:
        return [[0, 1], [0, 2], [1, 2]]
    width = many.bit_length()
    # The first child is in all choices, and each choice has one child of its own: no line has three such lots.
    marks = [(1 << width) - 1] + [1 << at for at in range(width)]
    marks = marks + [mark for mark in range(1, 1 << width) if mark not in marks]
    return [[child for child in range(many) if marks[child] >> at & 1] for at in range(width)]


def knot_facts(tree, above):
    """The fewest lots that tell a knot below a knot of a kind, or below none."""
    kind, children = tree
    if kind == "bare":
        return [parts_of(tree)] if above == "bare" else []
    many = len(children)
    choices = free_choices(many)
    if kind == "line":
        choices = [list(range(first, end)) for first, end in line_stretches(many)]
    return [union_of([parts_of(children[child]) for child in choice]) for choice in choices]


def facts_below(tree, above):
    """The fewest lots that tell a leaf or knot, and all in it, below a knot of a kind, or below none."""
    if is_leaf(tree):
        return []
    lots = knot_facts(tree, above)
    for child in tree[1]:
        lots.extend(facts_below(child, tree[0]))
    return lots


def fewest_facts(shape):
    """As few inner lots as can be from which just the inner lots follow, ascending."""
    return tuple(sorted(facts_below(shape, "")))


def joined_sets(sets, parts, count):
    """In how many ways so many parts lie in so many trees, two or more, told the ways of fewer parts."""
    ways = 0
    # The tree of the first part has some of the others.
    for size in range(1, parts - count + 2):
        ways += comb(parts - 1, size - 1) * sets[size][1] * sets[parts - size][count - 1]
    return ways


def knots_over(row):
    """How many knots stand over the trees that a row counts by their number."""
    knots = sum(row[2:])
    for count in range(3, len(row)):
        # Free, or in line, in each order from either end.
        knots += row[count] * (1 + factorial(count) // 2)
    return knots


def how_many_shapes(many):
    """The number of shapes of so many parts."""
    sets = [[1]]
    for parts in range(1, many + 1):
        row = [0, 0] + [joined_sets(sets, parts, count) for count in range(2, parts + 1)]
        row[1] = 1 if parts == 1 else knots_over(row)
        sets.append(row)
    return sets[many][1]
