"""Rows of stretches with gaps between them, whose marks are products in a group."""

from oncetested.boards import all_settings
from oncetested.errors import InvalidSetting, InvalidSize, InvalidTests
from oncetested.groups import centralizer_of, centre_of, parting_makers
from oncetested.values import is_below, is_between, is_sequence, power_of, wrong_place

MOST_GAPS = 3
MOST_ROWS = 600


def is_row(group, value, least, most):
    """Whether any value is a sequence of so many elements."""
    if not is_sequence(value) or not least <= len(value) <= most:
        return False
    return wrong_place([group.size] * len(value), value) is None


def mark_between(group, stretches, gaps):
    """The product of stretches with gaps between them."""
    done = stretches[0]
    for gap, stretch in zip(gaps, stretches[1:]):
        done = group.rows[group.rows[done][gap]][stretch]
    return done


def gap_mark(group, stretches, gaps):
    """The mark of a row of stretches with gaps between them (any values)."""
    if not is_row(group, gaps, 1, MOST_GAPS):
        raise InvalidSetting("gaps")
    if not is_row(group, stretches, len(gaps) + 1, len(gaps) + 1):
        raise InvalidSetting("stretches")
    return mark_between(group, stretches, gaps)


def passed_between(group, centre, one, other):
    """The elements of the centre that stretches pass on over the gaps to make another row of them, or None."""
    passed = []
    brought = group.unit
    for x, y in zip(one, other):
        here = group.rows[group.undone[brought]][x]
        brought = group.rows[group.undone[here]][y]
        if brought not in centre:
            return None
        passed.append(brought)
    return tuple(passed[:-1]) if brought == group.unit else None


def gap_pass(group, one, other):
    """The elements of the centre by which one row of stretches makes another one, or None (any values)."""
    if not is_row(group, one, 2, MOST_GAPS + 1):
        raise InvalidSetting("one")
    if not is_row(group, other, len(one), len(one)):
        raise InvalidSetting("other")
    return passed_between(group, centre_of(group), one, other)


def need_gaps(many):
    """An error for any value that is no number of gaps."""
    if not is_between(many, 1, MOST_GAPS):
        raise InvalidSize("gaps")


def gap_kinds(group, many):
    """The number of kinds of rows of stretches with so many gaps."""
    need_gaps(many)
    return power_of(group.size, many + 1) // power_of(len(centre_of(group)), many)


def need_tries(sizes, tries):
    """An error for any value that is no sequence of tries of these sizes."""
    if not is_sequence(tries):
        raise InvalidTests(-1)
    for at, gaps in enumerate(tries):
        if wrong_place(sizes, gaps) is not None:
            raise InvalidTests(at)


def first_of_kinds(group, rows, shown):
    """The first two rows of stretches of unlike kinds that show the same, or None."""
    centre = centre_of(group)
    firsts = {}
    found = []
    for number, row in enumerate(rows):
        first = firsts.setdefault(shown[number], number)
        if passed_between(group, centre, rows[first], row) is None:
            found.append((first, number))
    return min(found) if found else None


def gap_unnoticed(group, many, tries):
    """The least change that stays at some tries and not at all, and the least try that notices it, or None."""
    need_gaps(many)
    if power_of(group.size, many + 1) > MOST_ROWS:
        raise InvalidSize("gaps")
    sizes = [group.size] * many
    need_tries(sizes, tries)
    rows = all_settings(sizes + [group.size])
    shown = [tuple([mark_between(group, row, gaps) for gaps in tries]) for row in rows]
    found = first_of_kinds(group, rows, shown)
    if found is None:
        return None
    one, other = rows[found[0]], rows[found[1]]
    noticed = [places for places in all_settings(sizes)
               if mark_between(group, one, places) != mark_between(group, other, places)]
    return one, other, noticed[0]


def gap_blind(group, gaps):
    """None if these elements are enough as tries of one gap, else the least element that shows they are not."""
    if not is_sequence(gaps) or len(gaps) == 0:
        raise InvalidTests(-1)
    for at, gap in enumerate(gaps):
        if not is_below(gap, group.size):
            raise InvalidTests(at)
    back = group.undone[gaps[0]]
    steps = [group.rows[gap][back] for gap in gaps]
    centre = centre_of(group)
    blind = [x for x in centralizer_of(group, steps) if x not in centre]
    return blind[0] if blind else None


def gap_bounds(group, many):
    """The number below which tries never are enough, and one with which some are."""
    need_gaps(many)
    makers = len(parting_makers(group))
    return 1 + makers, 1 + many * makers


def spread_tries(group, many):
    """Tries that are enough: units, and each parting maker in each gap beside units, ascending."""
    need_gaps(many)
    units = (group.unit,) * many
    tries = [units]
    for at in range(many):
        tries.extend([units[:at] + (maker,) + units[at + 1:] for maker in parting_makers(group)])
    return tuple(sorted(tries))


def staying_element(group):
    """The first element outside the centre that goes with the most elements, and their number, or None."""
    centre = centre_of(group)
    best = None
    for x in range(group.size):
        if x not in centre:
            count = len(centralizer_of(group, (x,)))
            if best is None or count > best[1]:
                best = (x, count)
    return best


def gap_most(group, many):
    """At how many tries a change may stay that is noticed at some."""
    need_gaps(many)
    best = staying_element(group)
    return 0 if best is None else best[1] * power_of(group.size, many - 1)


def gap_worst(group, many):
    """Some change that stays at so many tries and is noticed, or None."""
    need_gaps(many)
    best = staying_element(group)
    if best is None:
        return None
    # An element that moves over the first gap is seen by just those that do not go with it.
    units = (group.unit,) * many
    one = (best[0],) + units
    other = (group.unit, best[0]) + units[1:]
    return min(one, other), max(one, other)
