"""Told cases of marks that are products of readings in a commutative group."""

from math import gcd

from oncetested.boards import all_settings, is_setting, need_setting, wrong_size
from oncetested.errors import InvalidBoard, InvalidCases, InvalidTable, Refused
from oncetested.groups import Group, element_orders, is_commutative
from oncetested.values import is_below, is_between, is_sequence, product_of, wrong_place


class Sums:
    """Cases (setting, mark), whose marks are products of a reading for each part's content."""

    def __init__(self, group, sizes, cases):
        if not isinstance(group, Group) or not is_commutative(group):
            raise InvalidTable(-1)
        at = wrong_size(sizes)
        if at is not None:
            raise InvalidBoard(("sizes", at))
        if not is_sequence(cases):
            raise InvalidCases(-1)
        for at, case in enumerate(cases):
            if not is_case(group, sizes, case):
                raise InvalidCases(at)
        self.group = group
        self.sizes = tuple(sizes)
        self.cases = tuple(cases)
        self.exponent = max(element_orders(group))

    def clash_paper(self):
        """None if some readings fit, else some (share, numbers) that show none do."""
        left, middle, _ = parted_counts(self)
        for at, numbers in enumerate(left):
            share = gcd(middle[at], self.exponent)
            if not is_power(self, share, case_mark(self, numbers)):
                return share, tuple(numbers)
        return None

    def some_readings(self):
        """Some readings that fit, or None."""
        left, middle, right = parted_counts(self)
        done = [self.group.unit] * len(middle)
        for at, numbers in enumerate(left):
            roots = roots_of(self, middle[at], case_mark(self, numbers))
            if not roots:
                return None
            done[at] = roots[0]
        return readings_by(self, led_back(self, right, done))

    def sure_mark(self, setting):
        """The mark that a setting has by all readings that fit, or None if it has several."""
        numbers = self.sure_numbers(setting)
        return None if numbers is None else case_mark(self, numbers)

    def sure_numbers(self, setting):
        """Some numbers that make the setting's mark sure, or None."""
        need_fit(self, setting)
        left, middle, right = parted_counts(self)
        wanted = counts_by(self, right, setting)
        shares = [shares_of(self, middle[at], count) for at, count in enumerate(wanted)]
        if not all(shares):
            return None
        made = [0] * len(self.cases)
        for share, numbers in zip(shares, left):
            made = [number + share[0] * further for number, further in zip(made, numbers)]
        return tuple([number % self.exponent for number in made])

    def open_turns(self, setting):
        """None for a sure mark, else readings that bring the unit at each case, and not at the setting."""
        need_fit(self, setting)
        _, middle, right = parted_counts(self)
        wanted = counts_by(self, right, setting)
        for at, count in enumerate(wanted):
            if not shares_of(self, middle[at], count):
                done = [self.group.unit] * len(middle)
                done[at] = first_of_order(self, gcd(middle[at], self.exponent))
                return readings_by(self, led_back(self, right, done))
        return None

    def board_count(self):
        """How many boards the readings that fit make."""
        if self.some_readings() is None:
            return 0
        _, middle, right = parted_counts(self)
        return product_of([len(roots_of(self, middle[at], self.group.unit)) for at in range(len(right))])

    def fewest_settings(self):
        """The first of the fewest further settings that make every mark sure."""
        primes = primes_of(self.exponent)
        if len(primes) > 1:
            raise Refused(-1)
        if not primes:
            return ()
        rows = {}
        for setting, _ in self.cases:
            is_further(rows, counts_of(self, setting), primes[0])
        further = []
        # Modulo a power of one prime, rows make all counts exactly if they do modulo the prime.
        for setting in all_settings(self.sizes):
            if is_further(rows, counts_of(self, setting), primes[0]):
                further.append(setting)
        return tuple(further)


def is_case(group, sizes, value):
    """Whether any value is a pair of a setting and an element."""
    if not isinstance(value, tuple) or len(value) != 2:
        return False
    return is_setting(sizes, value[0]) and is_below(value[1], group.size)


def counts_of(sums, setting):
    """1, and for each part and each content above 0 whether it is there."""
    counts = [1]
    for size, content in zip(sums.sizes, setting):
        counts.extend([int(content == other) for other in range(1, size)])
    return counts


def case_mark(sums, numbers):
    """The product of the marks of all cases, each as often as its number tells."""
    powers = [sums.group.power(case[1], number) for case, number in zip(sums.cases, numbers)]
    return sums.group.product(powers)


def roots_of(sums, often, mark):
    """The elements that, so often, make a mark."""
    return [x for x in range(sums.group.size) if sums.group.power(x, often) == mark]


def is_power(sums, often, mark):
    """Whether a mark is made by some element, so often."""
    return len(roots_of(sums, often, mark)) > 0


def shares_of(sums, often, count):
    """The numbers below the exponent that, so often, make a count but for multiples of the exponent."""
    return [share for share in range(sums.exponent) if (share * often - count) % sums.exponent == 0]


def first_of_order(sums, order):
    """The first element of an order."""
    return element_orders(sums.group).index(order)


def primes_of(number):
    """The primes that divide a number."""
    divisors = [other for other in range(2, number + 1) if number % other == 0]
    return [prime for prime in divisors if all([prime % lesser for lesser in range(2, prime)])]


def one_rows(many):
    """Rows with 1 in their own place, else 0."""
    return [[int(at == row) for at in range(many)] for row in range(many)]


def least_entry(rows, at, width):
    """The row and column of the least entry but 0 from a place on, or None."""
    found = [(rows[x][y], x, y) for x in range(at, len(rows)) for y in range(at, width) if rows[x][y]]
    return min(found)[1:] if found else None


def swap_columns(rows, one, other):
    """Exchange two columns of rows."""
    for row in rows:
        row[one], row[other] = row[other], row[one]


def take_rows(rows, at, other, often, whole):
    """Take a row often from another one, modulo a whole."""
    rows[other] = [(rows[other][y] - often * number) % whole for y, number in enumerate(rows[at])]


def take_columns(rows, at, other, often, whole):
    """Take a column often from another one, modulo a whole."""
    for row in rows:
        row[other] = (row[other] - often * row[at]) % whole


def clear_place(rows, left, right, at, whole):
    """Take the row and column of a place from the others; whether nothing is left of those there."""
    pivot = rows[at][at]
    for other in range(at + 1, len(rows)):
        often = rows[other][at] // pivot
        take_rows(rows, at, other, often, whole)
        take_rows(left, at, other, often, whole)
    for other in range(at + 1, len(right)):
        often = rows[at][other] // pivot
        take_columns(rows, at, other, often, whole)
        take_columns(right, at, other, often, whole)
    below = [rows[other][at] for other in range(at + 1, len(rows))]
    return not any(below) and not any(rows[at][at + 1:])


def parted_counts(sums):
    """Rows left and right of the cases' counts that part them, modulo the exponent, and the number of each place."""
    whole = sums.exponent
    rows = [[count % whole for count in counts_of(sums, setting)] for setting, _ in sums.cases]
    width = 1 + sum(sums.sizes) - len(sums.sizes)
    left = one_rows(len(rows))
    right = one_rows(width)
    at = 0
    place = least_entry(rows, at, width)
    while place is not None:
        x, y = place
        rows[at], rows[x] = rows[x], rows[at]
        left[at], left[x] = left[x], left[at]
        swap_columns(rows, at, y)
        swap_columns(right, at, y)
        # What is left is less than the pivot, so another round has a lesser one.
        if clear_place(rows, left, right, at, whole):
            at += 1
        place = least_entry(rows, at, width)
    middle = [0] * max(len(rows), width)
    for done in range(at):
        middle[done] = rows[done][done]
    return left, middle, right


def counts_by(sums, right, setting):
    """The counts of a setting, led by the rows on the right."""
    counts = counts_of(sums, setting)
    return [sum([count * right[x][y] for x, count in enumerate(counts)]) for y in range(len(counts))]


def led_back(sums, right, done):
    """The products of elements, as often as the rows on the right tell."""
    group = sums.group
    return [group.product([group.power(x, often) for x, often in zip(done, row)]) for row in right]


def readings_by(sums, parts):
    """The readings with these elements for the setting of zeros, and for each content above 0."""
    readings = []
    at = 1
    for part, size in enumerate(sums.sizes):
        first = sums.group.unit if part else parts[0]
        others = [sums.group.product((first, other)) for other in parts[at:at + size - 1]]
        readings.append((first,) + tuple(others))
        at += size - 1
    return tuple(readings)


def need_fit(sums, setting):
    """The errors of a setting (any value), and one if no readings fit."""
    need_setting(sums.sizes, setting)
    if sums.some_readings() is None:
        raise Refused(-1)


def is_further(rows, counts, prime):
    """Whether counts are no sum of those of rows, modulo a prime; then they are kept, by their first place."""
    left = [count % prime for count in counts]
    for at in range(len(counts)):
        if left[at] and at not in rows:
            back = [often for often in range(prime) if often * left[at] % prime == 1][0]
            rows[at] = [count * back % prime for count in left]
            return True
        if left[at]:
            left = [(count - left[at] * rows[at][y]) % prime for y, count in enumerate(left)]
    return False


def is_numbers(sums, value):
    """Whether any value is a tuple of numbers below the exponent, one for each case."""
    return isinstance(value, tuple) and wrong_place([sums.exponent] * len(sums.cases), value) is None


def made_counts(sums, numbers):
    """The counts that numbers make."""
    counts = counts_of(sums, (0,) * len(sums.sizes))
    rows = [counts_of(sums, setting) for setting, _ in sums.cases]
    return [sum([number * row[at] for number, row in zip(numbers, rows)]) for at in range(len(counts))]


def numbers_hold(sums, setting, value):
    """Whether any value is numbers that make a setting's counts but for multiples of the exponent."""
    if not is_numbers(sums, value):
        return False
    made = made_counts(sums, value)
    counts = counts_of(sums, setting)
    return all([(made[at] - count) % sums.exponent == 0 for at, count in enumerate(counts)])


def mark_by(sums, readings, setting):
    """The mark of a setting by readings."""
    return sums.group.product([row[content] for row, content in zip(readings, setting)])


def is_readings(sums, value):
    """Whether any value is a tuple of tuples, an element for each content of each part."""
    if not isinstance(value, tuple) or len(value) != len(sums.sizes):
        return False
    rows = [isinstance(row, tuple) and wrong_place([sums.group.size] * size, row) is None
            for row, size in zip(value, sums.sizes)]
    return all(rows)


def readings_hold(sums, value):
    """Whether any value is readings that fit."""
    return is_readings(sums, value) and all([mark_by(sums, value, case[0]) == case[1] for case in sums.cases])


def turns_hold(sums, setting, value):
    """Whether any value is readings that bring the unit at each case, and not at a setting."""
    if not is_readings(sums, value) or mark_by(sums, value, setting) == sums.group.unit:
        return False
    return all([mark_by(sums, value, case[0]) == sums.group.unit for case in sums.cases])


def clash_holds(sums, value):
    """Whether any value is a pair that shows that no readings fit."""
    if not isinstance(value, tuple) or len(value) != 2 or not is_numbers(sums, value[1]):
        return False
    share, numbers = value
    if not is_between(share, 1, sums.exponent) or sums.exponent % share:
        return False
    if any([count % share for count in made_counts(sums, numbers)]):
        return False
    return not is_power(sums, share, case_mark(sums, numbers))
