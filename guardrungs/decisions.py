"""Decisions: a function as choices in an order of names."""

from guardrungs.bits import check_row, columns_of, row_at
from guardrungs.errors import BadName, TooMany
from guardrungs.formulas import check_plain, is_name, told_names, worked


def _check_order(order, names):
    """Raise what the order is refused by; names, ascending, must stand in it."""
    met = {}
    for name in order:
        if not is_name(name) or name in met:
            raise BadName(name)
        met[name] = True
    for name in names:
        if name not in met:
            raise BadName(name)
    if len(order) > 10:
        raise TooMany(10)


def _together(formula, other):
    """All names of two formulas, ascending."""
    return tuple(sorted(set(told_names(formula) + told_names(other))))


def _column(formula, order):
    """The column of the plain formula, the cases being the rows of the order's bits."""
    bits = {name: column for name, column in zip(order, columns_of(len(order)))}
    return worked(formula, bits, {}, (1 << (1 << len(order))) - 1)


def _decision(column, order, place):
    """The decision of the column for the order's names from place on."""
    cases = 1 << (len(order) - place)
    if column == 0:
        return 0
    if column == (1 << cases) - 1:
        return 1
    half = cases // 2
    low = column & ((1 << half) - 1)
    high = column >> half
    if low == high:
        return _decision(low, order, place + 1)
    return (order[place], _decision(low, order, place + 1), _decision(high, order, place + 1))


def decision(formula, order):
    """The decision of the plain formula for this order."""
    check_plain(formula)
    _check_order(order, told_names(formula))
    return _decision(_column(formula, order), order, 0)


def decision_of_bits(bits, order):
    """The decision of the function that has these bits for the rows in counting order."""
    _check_order(order, ())
    column = 0
    for case, bit in enumerate(check_row(bits, 1 << len(order))):
        column = column | (bit << case)
    return _decision(column, order, 0)


def choice(name, low, high):
    """The formula that is low where the name is 0 and high where it is 1; unlike formulas."""
    yes = ("name", name)
    no = ("not", yes)
    if low == ("bit", 0):
        return yes if high == ("bit", 1) else ("and", (yes, high))
    if high == ("bit", 0):
        return no if low == ("bit", 1) else ("and", (no, low))
    if low == ("bit", 1):
        return ("or", (no, high))
    if high == ("bit", 1):
        return ("or", (yes, low))
    return ("or", (("and", (no, low)), ("and", (yes, high))))


def decided(decision):
    """The formula of a decision."""
    if isinstance(decision, int):
        return ("bit", decision)
    name, low, high = decision
    return choice(name, decided(low), decided(high))


def same_rows(formula, other):
    """True if both plain formulas have the same bit for all choices."""
    check_plain(formula)
    check_plain(other)
    order = _together(formula, other)
    if len(order) > 10:
        raise TooMany(10)
    return _column(formula, order) == _column(other, order)


def first_unlike(formula, other, order):
    """The first row of the order's bits at which the two plain formulas differ, or None."""
    check_plain(formula)
    check_plain(other)
    _check_order(order, _together(formula, other))
    unlike = _column(formula, order) ^ _column(other, order)
    if unlike == 0:
        return None
    return row_at((unlike & -unlike).bit_length() - 1, len(order))


def hangs_on(formula, name):
    """True if the plain formula hangs on the name."""
    check_plain(formula)
    if not is_name(name):
        raise BadName(name)
    names = told_names(formula)
    if len(names) > 10:
        raise TooMany(10)
    if name not in names:
        return False
    # The name goes ahead of the others, so the two halves of the column are its two choices.
    order = (name,) + tuple([other for other in names if other != name])
    column = _column(formula, order)
    half = 1 << (len(order) - 1)
    return column >> half != column & ((1 << half) - 1)
