"""Groups as tables, their elements, and matches between them."""

from itertools import combinations
from math import gcd

from oncetested.errors import InvalidRow, InvalidSize, InvalidTable, Refused
from oncetested.values import is_below, is_integer, is_permutation, is_sequence, wrong_place

MOST_ELEMENTS = 12


def need_square(value):
    """Any value that is a table with every number once in each row and column, as tuples, else an error."""
    if not is_sequence(value) or not 1 <= len(value) <= MOST_ELEMENTS:
        raise InvalidTable(())
    size = len(value)
    for row in value:
        if wrong_place([size] * size, row) is not None:
            raise InvalidTable(())
    for x in range(size):
        for y in range(size):
            above = [value[upper][y] for upper in range(x)]
            if value[x][y] in above or value[x][y] in value[x][:y]:
                raise InvalidTable((x, y))
    return tuple([tuple(row) for row in value])


def open_triple(rows):
    """The first (x, y, z) for which (x y) z is not x (y z), or None."""
    size = len(rows)
    for x in range(size):
        for y in range(size):
            for z in range(size):
                if rows[rows[x][y]][z] != rows[x][rows[y][z]]:
                    return x, y, z
    return None


def unit_of(rows):
    """The unit of a table that has one."""
    return rows.index(tuple(range(len(rows))))


class Group:
    """A table of products: row x, column y has the product x y."""

    def __init__(self, rows):
        rows = need_square(rows)
        at = open_triple(rows)
        if at is not None:
            raise InvalidTable(at)
        self.rows = rows
        self.size = len(rows)
        self.unit = unit_of(rows)
        self.undone = tuple([row.index(self.unit) for row in rows])

    def __eq__(self, other):
        return isinstance(other, Group) and self.rows == other.rows

    def __len__(self):
        return len(self.rows)

    def product(self, row):
        """The product of a sequence of elements."""
        need_row(self, row)
        done = self.unit
        for x in row:
            done = self.rows[done][x]
        return done

    def power(self, x, n):
        """The product of n times x; of -n times what undoes x for n below 0."""
        need_element(self, x)
        if not is_integer(n):
            raise InvalidSize("n")
        done = self.unit
        for _ in range(n % element_order(self, x)):
            done = self.rows[done][x]
        return done


def need_element(group, x):
    """An error for any value that is no element."""
    if not is_below(x, group.size):
        raise InvalidSize("element")


def need_row(group, row):
    """An error for any value that is no sequence of elements."""
    if not is_sequence(row):
        raise InvalidSize("element")
    for x in row:
        need_element(group, x)


def element_order(group, x):
    """The least n from 1 on with the unit as the product of n times x."""
    need_element(group, x)
    order = 1
    done = x
    while done != group.unit:
        done = group.rows[done][x]
        order += 1
    return order


def element_orders(group):
    """The orders of all elements."""
    return tuple([element_order(group, x) for x in range(group.size)])


def order_profile(group):
    """The ascending pairs of an order and how many elements have it."""
    orders = element_orders(group)
    return tuple([(order, orders.count(order)) for order in sorted(set(orders))])


def is_commutative(group):
    """Whether x y is y x for any two elements."""
    return group.rows == turned_rows(group.rows)


def made_part(group, lot):
    """All products of elements of a sequence, ascending."""
    need_row(group, lot)
    made = [group.unit]
    at = 0
    while at < len(made):
        for x in lot:
            done = group.rows[made[at]][x]
            if done not in made:
                made.append(done)
        at += 1
    return tuple(sorted(made))


def fewest_makers(group):
    """The first of the fewest elements whose products are all."""
    for many in range(group.size + 1):
        for lot in combinations(range(group.size), many):
            if len(made_part(group, lot)) == group.size:
                return lot
    return tuple(range(group.size))


def centralizer_of(group, lot):
    """The x with x y equal to y x for each y of a sequence, ascending."""
    need_row(group, lot)
    rows = group.rows
    return tuple([x for x in range(group.size) if all([rows[x][y] == rows[y][x] for y in lot])])


def centre_of(group):
    """The x with x y equal to y x for all y, ascending."""
    return centralizer_of(group, tuple(range(group.size)))


def parting_makers(group):
    """The first of the fewest elements whose centralizer is the centre."""
    centre = centre_of(group)
    for many in range(group.size + 1):
        for lot in combinations(range(group.size), many):
            if centralizer_of(group, lot) == centre:
                return lot
    return tuple(range(group.size))


def element_classes(group):
    """The lots of all g x undone(g) of each x, by their least ones."""
    classes = []
    for x in range(group.size):
        lot = sorted(set([group.product((g, x, group.undone[g])) for g in range(group.size)]))
        if lot[0] == x:
            classes.append(tuple(lot))
    return tuple(classes)


def retest_ratio(group):
    """The number of classes and the size, without a common divisor."""
    many = len(element_classes(group))
    shared = gcd(many, group.size)
    return many // shared, group.size // shared


def widened_match(one, other, told, x, y):
    """The least part of a match that has a told part and leads x to y, as a dict, or None."""
    known = {z: told[z] for z in told}
    known[x] = y
    waiting = [x]
    while waiting:
        new = waiting.pop()
        for old in list(known):
            for first, second in ((new, old), (old, new)):
                done = one[first][second]
                image = other[known[first]][known[second]]
                if done not in known:
                    known[done] = image
                    waiting.append(done)
                elif known[done] != image:
                    return None
    if len(set(list(known.values()))) < len(known):
        return None
    return known


def table_matches(one, other):
    """All matches of two tables of one size that have units, ascending."""
    size = len(one)
    found = [{unit_of(one): unit_of(other)}]
    x = 0
    while found and len(found[0]) < size:
        if x not in found[0]:
            wider = [widened_match(one, other, told, x, y) for told in found for y in range(size)]
            found = [told for told in wider if told is not None]
        x += 1
    return tuple(sorted([tuple([told[z] for z in range(size)]) for told in found]))


def group_matches(one, other):
    """All matches of one group with another one, ascending."""
    if one.size != other.size:
        return ()
    return table_matches(one.rows, other.rows)


def group_match(one, other):
    """The first match of one group with another one, or None."""
    matches = group_matches(one, other)
    return matches[0] if matches else None


def turned_rows(rows):
    """The rows with the products y x for x y."""
    size = len(rows)
    return tuple([tuple([rows[y][x] for y in range(size)]) for x in range(size)])


def turned_group(group):
    """The group with the products y x for x y."""
    return Group(turned_rows(group.rows))


def named_rows(rows, lines, places, marks):
    """The rows with the mark marks[rows[x][y]] in row lines[x] and column places[y]."""
    size = len(rows)
    named = [[0] * size for _ in range(size)]
    for x in range(size):
        for y in range(size):
            named[lines[x]][places[y]] = marks[rows[x][y]]
    return tuple([tuple(row) for row in named])


def named_group(group, row):
    """The group with the name row[x] for x."""
    if not is_permutation(row, group.size):
        raise InvalidRow(-1)
    return Group(named_rows(group.rows, row, row, row))


def is_turn(group, turn):
    """Whether any value is a permutation that is a match of a group with itself."""
    return is_permutation(turn, group.size) and named_rows(group.rows, turn, turn, turn) == group.rows


def turned_often(turn, many, x):
    """Where x is led by a permutation done many times."""
    for _ in range(many):
        x = turn[x]
    return x


def need_extension(group, turn, many, extra):
    """The errors of an extended group (any values)."""
    if not is_integer(many) or many < 1 or many * group.size > MOST_ELEMENTS:
        raise InvalidSize("many")
    if not is_turn(group, turn):
        raise Refused("turn")
    if not is_below(extra, group.size) or turn[extra] != extra:
        raise Refused("extra")
    for x in range(group.size):
        if turned_often(turn, many, x) != group.product((extra, x, group.undone[extra])):
            raise Refused("power")


def extended_group(group, turn, many, extra):
    """The group with the element x + size i for x t .. t with i times a new t."""
    need_extension(group, turn, many, extra)
    places = [(i, x) for i in range(many) for x in range(group.size)]
    rows = []
    for i, x in places:
        row = []
        for j, y in places:
            done = group.product((x, turned_often(turn, i, y)))
            if i + j >= many:
                done = group.product((done, extra))
            row.append(done + group.size * ((i + j) % many))
        rows.append(row)
    return Group(rows)
