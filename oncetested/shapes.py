"""Shapes: trees of parts, their strong lots and their inner lots."""

from itertools import combinations

from oncetested.errors import InvalidShape, InvalidSize
from oncetested.values import is_below, is_integer, union_of

FEWEST_CHILDREN = {"bare": 2, "line": 3, "free": 3}


def is_leaf(tree):
    """Whether a leaf or knot is a leaf."""
    return isinstance(tree, int)


def is_built(value):
    """Whether any value is made of leaves and knots."""
    if is_integer(value):
        return value >= 0
    if not isinstance(value, tuple) or len(value) != 2:
        return False
    kind, children = value
    if not isinstance(kind, str) or kind not in FEWEST_CHILDREN or not isinstance(children, tuple):
        return False
    return len(children) >= FEWEST_CHILDREN[kind] and all([is_built(child) for child in children])


def parts_of(shape):
    """The lot of the parts of a shape, or of a leaf or knot in it."""
    if is_leaf(shape):
        return (shape,)
    return union_of([parts_of(child) for child in shape[1]])


def stands_right(tree):
    """Whether the children of all knots stand in their order."""
    if is_leaf(tree):
        return True
    kind, children = tree
    firsts = [parts_of(child)[0] for child in children]
    if kind == "line":
        right = firsts[0] < firsts[-1]
    else:
        right = firsts == sorted(firsts)
    return right and all([stands_right(child) for child in children])


def need_shape(value):
    """Any value that is a shape, else an error."""
    if not is_built(value):
        raise InvalidShape(0)
    parts = parts_of(value)
    if parts != tuple(range(len(parts))):
        raise InvalidShape(1)
    if not stands_right(value):
        raise InvalidShape(2)
    return value


def is_shape(value):
    """Whether any value is a shape."""
    try:
        need_shape(value)
    except InvalidShape:
        return False
    return True


def trees_of(shape):
    """All leaves and knots of a shape."""
    trees = [shape]
    if not is_leaf(shape):
        for child in shape[1]:
            trees.extend(trees_of(child))
    return trees


def strong_lots(shape):
    """The lots of all leaves and knots, ascending."""
    return tuple(sorted([parts_of(tree) for tree in trees_of(shape)]))


def knot_there(shape, lot):
    """The kind and the lots of the children of the knot with just these parts, or None."""
    for tree in trees_of(shape):
        if not is_leaf(tree) and parts_of(tree) == tuple(lot):
            return tree[0], tuple([parts_of(child) for child in tree[1]])
    return None


def least_tree(shape, lot):
    """The least leaf or knot with all parts of a lot."""
    if not is_leaf(shape):
        for child in shape[1]:
            parts = parts_of(child)
            if all([part in parts for part in lot]):
                return least_tree(child, lot)
    return shape


def met_children(knot, lot):
    """The numbers of the children of a knot that have parts of a lot."""
    met = []
    for number, child in enumerate(knot[1]):
        if any([part in lot for part in parts_of(child)]):
            met.append(number)
    return met


def filled_children(knot, numbers):
    """The numbers of the children that make the least inner lot of a knot with some of them, two or more."""
    if knot[0] == "bare":
        return list(range(len(knot[1])))
    if knot[0] == "line":
        return list(range(numbers[0], numbers[-1] + 1))
    return list(numbers)


def joined_parts(knot, numbers):
    """The lot of the parts of some children of a knot."""
    return union_of([parts_of(knot[1][number]) for number in numbers])


def inner_hull(shape, lot):
    """The least inner lot with all parts of a lot."""
    tree = least_tree(shape, lot)
    if is_leaf(tree):
        return parts_of(tree)
    return joined_parts(tree, filled_children(tree, met_children(tree, lot)))


def is_inner(shape, lot):
    """Whether a lot is an inner lot of a shape."""
    return inner_hull(shape, lot) == tuple(lot)


def lot_place(shape, lot):
    """The least leaf or knot with an inner lot, as its lot, and the numbers of the children, or None."""
    if not is_inner(shape, lot):
        return None
    tree = least_tree(shape, lot)
    numbers = [] if is_leaf(tree) else met_children(tree, lot)
    return parts_of(tree), tuple(numbers)


def joined_choices(knot):
    """The numbers of children, two or more, that make inner lots of a knot."""
    numbers = list(range(len(knot[1])))
    if knot[0] == "bare":
        return [numbers]
    if knot[0] == "line":
        return [numbers[first:last + 1] for first in numbers for last in numbers if first < last]
    return [choice for many in range(2, len(numbers) + 1) for choice in combinations(numbers, many)]


def inner_lots(shape):
    """All inner lots, ascending."""
    lots = []
    for tree in trees_of(shape):
        if is_leaf(tree):
            lots.append(parts_of(tree))
        else:
            lots.extend([joined_parts(tree, numbers) for numbers in joined_choices(tree)])
    return tuple(sorted(lots))


def crossing_lot(shape, lot):
    """Some inner lot that overlaps an inner lot, or None if it is strong."""
    tree = least_tree(shape, lot)
    if is_leaf(tree):
        return None
    numbers = met_children(tree, lot)
    others = [number for number in range(len(tree[1])) if number not in numbers]
    if not others:
        return None
    if tree[0] == "free":
        return joined_parts(tree, [numbers[0], others[0]])
    # A stretch of a line is crossed at one of its ends.
    if numbers[0] > 0:
        return joined_parts(tree, [numbers[0] - 1, numbers[0]])
    return joined_parts(tree, [numbers[-1], numbers[-1] + 1])


def count_lots(shape):
    """The number of inner lots, told without listing them."""
    if is_leaf(shape):
        return 1
    kind, children = shape
    many = len(children)
    count = sum([count_lots(child) for child in children])
    if kind == "bare":
        return count + 1
    if kind == "line":
        return count + many * (many - 1) // 2
    return count + (1 << many) - 1 - many


def child_marks(child, row):
    """Whether a child can be in, and whether it can be out, of a lot whose first parts are a row."""
    low = [part for part in parts_of(child) if part <= row[-1]]
    hits = [part for part in low if part in row]
    return len(hits) == len(low), not hits


def stretches_fitting(marks):
    """How many stretches of two neighbours or more fit, by what each child of a line can be."""
    count = 0
    for first in range(len(marks)):
        for last in range(first + 1, len(marks)):
            inside = [marks[number][0] for number in range(first, last + 1)]
            outside = [marks[number][1] for number in range(len(marks)) if not first <= number <= last]
            count += int(all(inside) and all(outside))
    return count


def choices_fitting(marks):
    """How many choices of two children or more fit, by what each child of a free knot can be."""
    if not all([inside or outside for inside, outside in marks]):
        return 0
    sure = len([outside for inside, outside in marks if not outside])
    either = len([outside for inside, outside in marks if inside and outside])
    # The row has parts of some child, so at least one is surely in; this one alone is no choice of two.
    return (1 << either) - int(sure == 1)


def lots_there(tree, row):
    """How many inner lots made of children of this leaf or knot have these first parts."""
    parts = parts_of(tree)
    if not all([part in parts for part in row]):
        return 0
    if is_leaf(tree):
        return 1
    kind, children = tree
    marks = [child_marks(child, row) for child in children]
    if kind == "bare":
        return int(all([inside for inside, outside in marks]))
    if kind == "line":
        return stretches_fitting(marks)
    return choices_fitting(marks)


def lots_beginning(shape, row):
    """How many inner lots have these first parts: all their other parts are greater."""
    return sum([lots_there(tree, row) for tree in trees_of(shape)])


def nth_lot(shape, number):
    """The inner lot of this number among them, ascending."""
    if not is_below(number, count_lots(shape)):
        raise InvalidSize("number")
    row = ()
    while True:
        if row and is_inner(shape, row):
            if number == 0:
                return row
            number -= 1
        part = row[-1] + 1 if row else 0
        count = lots_beginning(shape, row + (part,))
        while number >= count:
            number -= count
            part += 1
            count = lots_beginning(shape, row + (part,))
        row = row + (part,)


def lot_number(shape, lot):
    """The number of an inner lot among them, ascending, or None."""
    if not is_inner(shape, lot):
        return None
    number = 0
    least = 0
    for at, part in enumerate(lot):
        row = tuple(lot[:at])
        if row and is_inner(shape, row):
            number += 1
        for lesser in range(least, part):
            number += lots_beginning(shape, row + (lesser,))
        least = part + 1
    return number
