"""Few settings that tell forms apart, and the form that marks near 0 tell."""

from itertools import combinations

from oncetested.boards import Board, all_settings
from oncetested.errors import Refused
from oncetested.fair import is_fair
from oncetested.forms import Form, form_shape
from oncetested.moves import laid_rows, near_form, tidy_form
from oncetested.shapes import inner_lots
from oncetested.values import is_permutation, union_of

MOST_NEAR = 3


def near_settings(many, parts, most):
    """All settings with at most so many contents that are not 0, ascending."""
    rows = [((), 0)]
    for _ in range(parts):
        wider = []
        for row, count in rows:
            wider.append((row + (0,), count))
            if count < most:
                wider.extend([(row + (content,), count + 1) for content in range(1, many)])
        rows = wider
    return tuple([row for row, _ in rows])


def need_alike(one, other):
    """An error for forms of unlike many or numbers of parts."""
    if one.many != other.many or len(one) != len(other):
        raise Refused(-1)


def parting_parts(one, other):
    """None for equal forms, else a lot of parts by which they differ while the others are at 0."""
    need_alike(one, other)
    if one == other:
        return None
    if one.base != other.base:
        return ()
    lot = tuple(range(len(one)))
    for part in reversed(range(len(one))):
        fewer = tuple([left for left in lot if left != part])
        if fewer and near_form(one, fewer) != near_form(other, fewer):
            lot = fewer
    return lot


def spread_setting(parts, lot, contents):
    """The setting of so many parts with these contents of a lot, the others at 0."""
    told = dict(zip(lot, contents))
    return tuple([told.get(part, 0) for part in range(parts)])


def parting_setting(one, other):
    """The least setting with unlike marks, the others than the parting parts being at 0; or None."""
    lot = parting_parts(one, other)
    if lot is None:
        return None
    for contents in all_settings([one.many] * len(lot)):
        setting = spread_setting(len(one), lot, contents)
        if one(setting) != other(setting):
            return setting
    return None


def told_names(many, parts, told):
    """For each part the marks of its contents, the others at 0."""
    lone = []
    for part in range(parts):
        lone.append(tuple([told[spread_setting(parts, (part,), (content,))] for content in range(many)]))
    return lone


def lot_choices(form):
    """All inner lots of a form, alone, and all two without common parts that make one."""
    lots = inner_lots(form_shape(form))
    known = {lot: True for lot in lots}
    pairs = []
    for one, other in combinations(list(lots), 2):
        if not any([part in other for part in one]) and union_of([one, other]) in known:
            pairs.append((one, other))
    return [(lot,) for lot in lots] + pairs


def choice_table(many, told, names, lots, part):
    """The marks by the names of some lots and of a further part, the others at 0."""
    read = [lot[0] for lot in lots] + [part]
    marks = []
    for brought in all_settings([many] * len(read)):
        contents = [names[other].index(name) for other, name in zip(read, brought)]
        marks.append(told[spread_setting(len(names), read, contents)])
    return tuple(marks)


def joined_form(form, names, lots, table):
    """The form with a further part that is tied to some lots by a table of names."""
    parts = len(form)
    rows = []
    read = []
    for lot in lots:
        read.append(laid_rows(near_form(form, lot), lot, parts + 1, rows)[-1])
    rows.append((tuple(read) + (parts,), table))
    # One part stands for all parts of the lots in what is left of the form.
    whole = union_of(lots)
    left = tuple([part for part in range(parts) if part == whole[0] or part not in whole])
    knot = parts + len(rows)
    laid_rows(near_form(form, left), [knot if part == whole[0] else part for part in left], parts + 1, rows)
    return tidy_form(form.many, names[:parts + 1], rows)


def brings_told(form, told):
    """Whether a form brings all told marks of settings in which its last part is not at 0, and no further one."""
    parts = len(form)
    for setting in told:
        if setting[parts - 1] and not any(setting[parts:]):
            if form(setting[:parts]) != told[setting]:
                return False
    return True


def grown_form(form, names, told):
    """The form with a further part that brings all told marks, or None."""
    part = len(form)
    for lots in lot_choices(form):
        table = choice_table(form.many, told, names, lots, part)
        if is_fair(Board(form.many, (form.many,) * (len(lots) + 1), table)):
            wider = joined_form(form, names, lots, table)
            if brings_told(wider, told):
                return wider
    return None


def form_by_marks(many, parts, marks):
    """The form with bare knots of at most three children that brings the marks at all near settings, or None."""
    told = dict(zip(near_settings(many, parts, MOST_NEAR), marks))
    names = told_names(many, parts, told)
    if not all([is_permutation(row, many) for row in names]):
        return None
    form = Form(many, names[:1], ())
    for _ in range(1, parts):
        form = grown_form(form, names, told)
        if form is None:
            return None
    return form
