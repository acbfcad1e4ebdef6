"""Bits, rows of bits and their numbers; and what else is asked of plain arguments."""

from guardrungs.errors import BadNumber, BadRow, TooMany


def is_whole(value, least, most):
    """True for an integer, no True or False, from least to most (None: without end)."""
    if not isinstance(value, int) or isinstance(value, bool):
        return False
    return least <= value and (most is None or value <= most)


def is_bit(value):
    """True exactly for the integers 0 and 1."""
    return is_whole(value, 0, 1)


def is_listed(value):
    """True for a list or a tuple."""
    return isinstance(value, (list, tuple))


def check_bits(row):
    """The row as a tuple, of whatever length."""
    if not is_listed(row):
        raise BadRow(-1)
    for place, bit in enumerate(row):
        if not is_bit(bit):
            raise BadRow(place)
    return tuple(row)


def check_row(row, many):
    """The row as a tuple, if it is a row of many bits."""
    if not is_listed(row) or len(row) != many:
        raise BadRow(-1)
    return check_bits(row)


def is_row(row, many):
    """True if this is a row of many bits."""
    return is_listed(row) and len(row) == many and all([is_bit(bit) for bit in row])


def rows_of(many):
    """All rows of many bits in counting order."""
    if not is_whole(many, 0, None):
        raise BadNumber("many")
    if many > 10:
        raise TooMany(10)
    return all_rows(many)


def all_rows(many):
    """All rows of so many bits in counting order, without a limit."""
    rows = [()]
    for _ in range(many):
        rows = [row + (bit,) for row in rows for bit in (0, 1)]
    return tuple(rows)


def number_of(row):
    """What the row tells as a binary number."""
    number = 0
    for bit in check_bits(row):
        number = 2 * number + bit
    return number


def row_at(number, many):
    """The row of many bits with this number."""
    if not is_whole(many, 0, 64):
        raise BadNumber("many")
    if not is_whole(number, 0, (1 << many) - 1):
        raise BadNumber("number")
    return tuple([(number >> place) & 1 for place in range(many - 1, -1, -1)])


def is_order(order, many):
    """True for a list or tuple that has each place from 0 below many just once."""
    if not is_listed(order) or len(order) != many:
        return False
    if not all([is_whole(place, 0, many - 1) for place in order]):
        return False
    return sorted(order) == list(range(many))


# A column is an integer that holds one bit for each of many cases, the bit of case k at place k.
# What is worked bit by bit is so worked for all cases at once: one case, or all readings of a book.


def columns_of(many):
    """For each place of a row of many bits its column, the cases being all rows in counting order."""
    columns = []
    for place in range(many):
        run = 1 << (many - 1 - place)
        column = ((1 << run) - 1) << run
        width = 2 * run
        while width < 1 << many:
            column = column | (column << width)
            width = 2 * width
        columns.append(column)
    return columns


def spread(column, cases):
    """The bits of a column, case by case."""
    return [(column >> case) & 1 for case in range(cases)]


def case_rows(lists, cases):
    """From lists of what each case has at one place: for each case its row."""
    if not lists:
        return [()] * cases
    return list(zip(*lists))
