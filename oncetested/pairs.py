"""Told cases of two lots side by side, whose readings multiply in a group."""

from oncetested.errors import InvalidCases, InvalidSetting, InvalidSize, InvalidTable, Refused
from oncetested.groups import Group
from oncetested.values import is_below, is_between, is_sequence, power_of, wrong_place

MOST_CONTENTS = 60


class Pairs:
    """Cases (a, b, mark): contents of both sides, and the product of their readings."""

    def __init__(self, group, left, right, cases):
        if not isinstance(group, Group) or group.size < 2:
            raise InvalidTable(-1)
        if not is_between(left, 1, MOST_CONTENTS):
            raise InvalidSize("left")
        if not is_between(right, 1, MOST_CONTENTS):
            raise InvalidSize("right")
        if not is_sequence(cases):
            raise InvalidCases(-1)
        for at, case in enumerate(cases):
            if not isinstance(case, tuple) or wrong_place((left, right, group.size), case) is not None:
                raise InvalidCases(at)
        self.group = group
        self.left = left
        self.right = right
        self.cases = tuple(cases)

    def case_road(self, a, b):
        """Some road of the fewest cases from a to b, or None."""
        need_ends(self, a, b)
        return shortest_road(self, list(range(len(self.cases))), a, b)

    def case_ring(self):
        """Some ring whose mark is not the unit, or None."""
        _, readings, tree = spanned(self)
        for number, (a, b, mark) in enumerate(self.cases):
            if product_at(self, readings, a, b) != mark:
                return shortest_road(self, tree, a, b) + (number,)
        return None

    def some_readings(self):
        """The readings that fit with the unit for the least content of each joined lot, or None."""
        _, readings, _ = spanned(self)
        parted = (tuple(readings[:self.left]), tuple(readings[self.left:]))
        return parted if pairs_fit(self, parted) else None

    def sure_mark(self, a, b):
        """The mark of a and b by all readings that fit, or None if there are several."""
        need_ends(self, a, b)
        need_readings(self)
        joined, readings, _ = spanned(self)
        if joined[a] != joined[self.left + b]:
            return None
        return product_at(self, readings, a, b)

    def other_readings(self, a, b, mark):
        """Some readings that fit and bring a mark for a and b, or None."""
        need_ends(self, a, b)
        if not is_below(mark, self.group.size):
            raise InvalidSize("mark")
        need_readings(self)
        joined, readings, _ = spanned(self)
        lot = joined[self.left + b]
        if joined[a] != lot:
            # The joined lot of b is free to be turned as a whole: left readings by a factor, right ones by its undone.
            undone = self.group.undone
            back = self.group.product((undone[readings[a]], mark, undone[readings[self.left + b]]))
            factors = [back if joined[side] == lot else self.group.unit for side in range(len(joined))]
            readings = turned_readings(self, readings, factors)
        elif product_at(self, readings, a, b) != mark:
            return None
        return tuple(readings[:self.left]), tuple(readings[self.left:])

    def board_count(self):
        """How many unlike tables of marks come of readings that fit."""
        if self.some_readings() is None:
            return 0
        return power_of(self.group.size, len(joined_lots(self)) - 1)

    def fewest_places(self):
        """Some fewest further places (a, b), ascending, by which all contents are joined."""
        lots = joined_lots(self)
        hubs = [lot for lot in lots if lot[0] and lot[1]]
        if hubs:
            hub = hubs[0]
            places = []
        else:
            # Without cases no joined lot has both sides: two lots make the first one.
            hub = ([0], [0])
            places = [(0, 0)]
        for lefts, rights in lots:
            if lefts and lefts[0] != hub[0][0]:
                places.append((lefts[0], hub[1][0]))
            elif not lefts and rights[0] != hub[1][0]:
                places.append((hub[0][0], rights[0]))
        return tuple(sorted(places))


def need_ends(pairs, a, b):
    """The errors for any values that are no contents of both sides."""
    if not is_below(a, pairs.left):
        raise InvalidSetting(0)
    if not is_below(b, pairs.right):
        raise InvalidSetting(1)


def need_readings(pairs):
    """An error if no readings fit."""
    if pairs.some_readings() is None:
        raise Refused(-1)


def product_at(pairs, readings, a, b):
    """What a and b bring by readings of left, then right contents."""
    return pairs.group.rows[readings[a]][readings[pairs.left + b]]


def turned_readings(pairs, readings, factors):
    """Readings turned by the undone factor of each left and by that of each right content."""
    group = pairs.group
    turned = []
    for side, reading in enumerate(readings):
        if side < pairs.left:
            turned.append(group.product((reading, group.undone[factors[side]])))
        else:
            turned.append(group.product((factors[side], reading)))
    return turned


def cases_beside(pairs, numbers):
    """For each left, then right content pairs of a case's number and the content on its other side."""
    beside = [[] for _ in range(pairs.left + pairs.right)]
    for number in numbers:
        a, b, _ = pairs.cases[number]
        beside[a].append((number, pairs.left + b))
        beside[pairs.left + b].append((number, a))
    return beside


def shortest_road(pairs, numbers, a, b):
    """The shortest road from a to b over cases of some numbers, or None."""
    beside = cases_beside(pairs, numbers)
    roads = {a: ()}
    waiting = [a]
    at = 0
    while at < len(waiting):
        here = waiting[at]
        for number, there in beside[here]:
            if there not in roads:
                roads[there] = roads[here] + (number,)
                waiting.append(there)
        at += 1
    return roads.get(pairs.left + b)


def reading_beside(pairs, side, reading, mark):
    """The reading of the other content of a case, by that of a left or right content and the mark."""
    group = pairs.group
    if side < pairs.left:
        return group.rows[group.undone[reading]][mark]
    return group.rows[mark][group.undone[reading]]


def spanned(pairs):
    """For each content the number of its joined lot and a reading, and cases enough to tell these readings."""
    beside = cases_beside(pairs, list(range(len(pairs.cases))))
    joined = [-1] * len(beside)
    readings = [pairs.group.unit] * len(beside)
    tree = []
    many = 0
    for root in range(len(beside)):
        if joined[root] < 0:
            joined[root] = many
            waiting = [root]
            while waiting:
                here = waiting.pop()
                for number, there in beside[here]:
                    if joined[there] < 0:
                        joined[there] = many
                        readings[there] = reading_beside(pairs, here, readings[here], pairs.cases[number][2])
                        tree.append(number)
                        waiting.append(there)
            many += 1
    return joined, readings, tree


def joined_lots(pairs):
    """The left and the right contents of each joined lot."""
    joined, _, _ = spanned(pairs)
    lots = [([], []) for _ in range(max(joined) + 1)]
    for side, lot in enumerate(joined):
        if side < pairs.left:
            lots[lot][0].append(side)
        else:
            lots[lot][1].append(side - pairs.left)
    return lots


def pairs_fit(pairs, value):
    """Whether any value is a pair of readings that fit."""
    if not isinstance(value, tuple) or len(value) != 2:
        return False
    for side, many in ((value[0], pairs.left), (value[1], pairs.right)):
        if not isinstance(side, tuple) or wrong_place([pairs.group.size] * many, side) is not None:
            return False
    lefts, rights = value
    return all([pairs.group.rows[lefts[a]][rights[b]] == mark for a, b, mark in pairs.cases])


def road_mark(pairs, road):
    """The product of the marks of cases in order, each second one undone."""
    marks = [pairs.cases[number][2] for number in road]
    turned = [pairs.group.undone[mark] if at % 2 else mark for at, mark in enumerate(marks)]
    return pairs.group.product(turned)


def is_joined(pairs, value):
    """Whether any value is a tuple of numbers of cases of which each two neighbours share the right content."""
    if not isinstance(value, tuple) or wrong_place([len(pairs.cases)] * len(value), value) is not None:
        return False
    for at in range(len(value) - 1):
        # Right contents are shared first, then left and right ones in turn.
        side = 0 if at % 2 else 1
        if pairs.cases[value[at]][side] != pairs.cases[value[at + 1]][side]:
            return False
    return True


def case_road_holds(pairs, a, b, value):
    """Whether any value is a road from a to b."""
    if not is_below(a, pairs.left) or not is_below(b, pairs.right) or not is_joined(pairs, value):
        return False
    if len(value) % 2 == 0:
        return False
    return pairs.cases[value[0]][0] == a and pairs.cases[value[-1]][1] == b


def case_ring_holds(pairs, value):
    """Whether any value is a ring whose mark is not the unit."""
    if not is_joined(pairs, value) or len(value) == 0 or len(value) % 2 == 1:
        return False
    if pairs.cases[value[-1]][0] != pairs.cases[value[0]][0]:
        return False
    return road_mark(pairs, value) != pairs.group.unit
