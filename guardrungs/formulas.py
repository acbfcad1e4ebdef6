"""Names and formulas."""

from guardrungs.bits import is_bit
from guardrungs.errors import BadFormula, BadName

LETTERS = "abcdefghijklmnopqrstuvwxyz"
SIGNS = "abcdefghijklmnopqrstuvwxyz0123456789."
WORDS = ("not", "and", "or", "rise", "fall")
EDGES = ("rise", "fall")
JOINTS = ("and", "or")
DEEPEST = 40


def is_name(value):
    """True exactly for names."""
    if not isinstance(value, str) or not 1 <= len(value) <= 40 or value in WORDS:
        return False
    if value[0] not in LETTERS or value[-1] == ".":
        return False
    return all([sign in SIGNS for sign in value])


def is_formula(value, names=None, depth=DEEPEST):
    """True for a formula of at most this depth; of these names alone, a dict, if names are told."""
    level = [value]
    for _ in range(depth):
        below = []
        for part in list(level):
            if not _is_part(part, names):
                return False
            if part[0] == "not":
                below.append(part[1])
            elif part[0] in JOINTS:
                below.extend(part[1])
        if not below:
            return True
        level = below
    return False


def _is_part(part, names):
    """True if this has the form of a formula; what its parts are is not looked at."""
    if not isinstance(part, tuple) or len(part) != 2:
        return False
    kind, inside = part
    if kind == "not":
        return True
    if kind in JOINTS:
        return isinstance(inside, tuple) and len(inside) > 1
    if kind == "bit":
        return is_bit(inside)
    if kind == "name" or kind in EDGES:
        return is_name(inside) if names is None else isinstance(inside, str) and inside in names
    return False


def check_formula(formula):
    """Raise BadFormula unless this is a formula."""
    if not is_formula(formula):
        raise BadFormula()


def leaves_of(formula):
    """The different bits, names and edges in the formula, which is one, as keys of a dict."""
    found = {}
    left = [formula]
    while left:
        part = left.pop()
        if part[0] == "not":
            left.append(part[1])
        elif part[0] in JOINTS:
            left.extend(part[1])
        else:
            found[part] = True
    return found


def has_edges(formula):
    """True if an edge is in the formula, which is one."""
    return any([leaf[0] in EDGES for leaf in leaves_of(formula)])


def is_plain(formula):
    """True if the formula has no edges."""
    check_formula(formula)
    return not has_edges(formula)


def check_plain(formula):
    """Raise BadFormula unless this is a plain formula."""
    if not is_plain(formula):
        raise BadFormula()


def told_names(formula):
    """As names_of, of what is known to be a formula."""
    return tuple(sorted({leaf[1] for leaf in leaves_of(formula) if leaf[0] != "bit"}))


def told_edges(formula):
    """As edges_of, of what is known to be a formula."""
    return tuple(sorted({leaf[1] for leaf in leaves_of(formula) if leaf[0] in EDGES}))


def names_of(formula):
    """All names in the formula, ascending."""
    check_formula(formula)
    return told_names(formula)


def edges_of(formula):
    """The names of the formula's edges, ascending."""
    check_formula(formula)
    return told_edges(formula)


def worked(formula, bits, seen, full):
    """The formula's column: bits and seen are dicts from names to columns, now and at the last look.

    full is the column with the bit 1 in each case.
    """
    kind, inside = formula
    if kind == "name":
        return bits[inside]
    if kind == "not":
        return full ^ worked(inside, bits, seen, full)
    if kind == "and":
        column = full
        for part in inside:
            column = column & worked(part, bits, seen, full)
            if column == 0:
                return 0
        return column
    if kind == "or":
        column = 0
        for part in inside:
            column = column | worked(part, bits, seen, full)
            if column == full:
                return full
        return column
    if kind == "bit":
        return full * inside
    if kind == "rise":
        return bits[inside] & (full ^ seen[inside])
    return seen[inside] & (full ^ bits[inside])


def bit_of(formula, bits):
    """The bit of the plain formula for these bits, a dict from names."""
    check_plain(formula)
    for name in told_names(formula):
        if name not in bits:
            raise BadName(name)
    return worked(formula, bits, {}, 1)


def _turned(formula):
    kind, inside = formula
    if kind == "bit":
        return ("bit", 1 - inside)
    if kind == "name":
        return ("not", formula)
    if kind == "not":
        return ("not", _turned(inside))
    return ("or" if kind == "and" else "and", tuple([_turned(part) for part in inside]))


def turned(formula):
    """The turned formula, which has the other bit for each choice."""
    check_plain(formula)
    other = _turned(formula)
    check_formula(other)
    return other


def _joined(joint, formulas, bit):
    for formula in formulas:
        check_formula(formula)
    if not formulas:
        return ("bit", bit)
    if len(formulas) == 1:
        return formulas[0]
    whole = (joint, tuple(formulas))
    check_formula(whole)
    return whole


def all_of(*formulas):
    """The formula that is 1 if all of these are."""
    return _joined("and", formulas, 1)


def any_of(*formulas):
    """The formula that is 1 if any of these is."""
    return _joined("or", formulas, 0)
