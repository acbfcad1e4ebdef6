"""Bits, rows of bits and their numbers; and what else is asked of plain arguments."""

from guardrungs.errors import BadNumber, BadRow, TooMany


def is_whole(value, least, most):
    """True for an integer, no True or False, from least to most (None: without end)."""
    if not isinstance(value, int) or isinstance(value, bool):
        return False
    return least <= value and (most is None or value <= most)


def is_bit(value):
    """True exactly for the integers 0 and 1."""
    return is_whole(value, 0, 1)


def is_listed(value):
    """True for a list or a tuple."""
    return isinstance(value, (list, tuple))


def check_bits(row):
    """The row as a tuple, of whatever length."""
    if not is_listed(row):
        raise BadRow(-1)
    for place, bit in enumerate(row):
        if not is_bit(bit):
            raise BadRow(place)
    return tuple(row)


def check_row(row, many):
    """The row as a tuple, if it is a row of many bits."""
    if not is_listed(row) or len(row) != many:
        raise BadRow(-1)
    return check_bits(row)


def is_row(row, many):
    """True if this is a row of many bits."""
    return is_listed(row) and len(row) == many and all([is_bit(bit) for bit in row])


def rows_of(many):
    """All rows of many bits in counting order."""
    if not is_whole(many, 0, None):
        raise BadNumber("many")
    if many > 10:
        raise TooMany(10)
    return all_rows(many)


def all_rows(many):
    """All rows of so many bits in counting order, without a limit."""
    rows = [()]
    for _ in range(many):
        rows = [row + (bit,) for row in rows for bit in (0, 1)]
    return tuple(rows)


def number_of(row):
    """What the row tells as a binary number."""
    number = 0
    for bit in check_bits(row):
        number = 2 * number + bit
    return number


def row_at(number, many):
    """The row of many bits with this number."""
    if not is_whole(many, 0, 64):
        raise BadNumber("many")
    if not is_whole(number, 0, (1 << many) - 1):
        raise BadNumber("number")
    return tuple([(number >> place) & 1 for place in range(many - 1, -1, -1)])


def is_order(order, many):
    """True for a list or tuple that has each place from 0 below many just once."""
    if not is_listed(order) or len(order) != many:
        return False
    if not all([is_whole(place, 0, many - 1) for place in order]):
        return False
    return sorted(order) == list(range(many))


# A column is an integer that holds one bit for each of many cases, the bit of case k at place k.
# What is worked bit by bit is so worked for all cases at once: one case, or all readings of a book.


def columns_of(many):
    """For each place of a row of many bits its column, the cases being all rows in counting order."""
    columns = []
    for place in range(many):
        run = 1 << (many - 1 - place)
        column = ((1 << run) - 1) << run
        width = 2 * run
        while width < 1 << many:
            column = column | (column << width)
            width = 2 * width
        columns.append(column)
    return columns


def case_rows(columns, cases):
    """For each case the row of its bits in the columns."""
    return _rows_at(columns, list(range(cases)))


# What a cycle leads to is told by columns, too; a number that is not the same in all cases by a list of pairs of a
# number and the column of the cases that have it. Cases to which all of these tell the same are one group.


def _values_at(told, cases):
    """What is told to each of these cases, which are given by their places."""
    if isinstance(told, int):
        return [(told >> case) & 1 for case in cases]
    values = []
    for case in cases:
        values.append([number for number, column in told if (column >> case) & 1 == 1][0])
    return values


def _rows_at(lists, cases):
    """For each of these cases the row of what the lists tell."""
    if not lists:
        return [()] * len(cases)
    values = [_values_at(told, cases) for told in lists]
    return list(zip(*values))


def _columns_in(lists):
    """The different columns in these lists."""
    columns = {}
    for told in lists:
        if isinstance(told, int):
            columns[told] = True
        else:
            columns.update({column: True for _, column in told})
    return list(columns)


def _groups_in(lists, full):
    """The columns of groups of cases to which the lists tell the same."""
    groups = [full]
    if full == 1:
        return groups
    for column in list(_columns_in(lists)):
        parted = []
        for group in list(groups):
            inside = group & column
            if inside in (0, group):
                parted.append(group)
            else:
                parted.extend([inside, group ^ inside])
        groups = parted
    return groups


def told_groups(answers, kept, full):
    """For each group of cases its answer, what is kept of it, and the column of its cases."""
    groups = _groups_in(answers + kept, full)
    firsts = [(group & -group).bit_length() - 1 for group in groups]
    return list(zip(_rows_at(answers, firsts), _rows_at(kept, firsts), groups))


def mask_of(places):
    """The integer that has ones at these places."""
    mask = 0
    for place in places:
        mask = mask | (1 << place)
    return mask


def places_in(mask):
    """The places of the ones of an integer, ascending."""
    signs = f"{mask:b}"
    last = len(signs) - 1
    places = []
    at = signs.rfind("1")
    while at >= 0:
        places.append(last - at)
        at = signs.rfind("1", 0, at)
    return places


def spread_groups(groups, full):
    """For each case the answer and what is kept, from groups."""
    if full == 1:
        return [groups[0][:2]]
    told = [None] * full.bit_length()
    for answer, kept, group in groups:
        pair = (answer, kept)
        for case in places_in(group):
            told[case] = pair
    return told
