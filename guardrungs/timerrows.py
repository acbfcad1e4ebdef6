"""Rows of timers, the rules that make them shorter, and their normal rows."""

from guardrungs.bits import check_bits, is_listed, is_whole
from guardrungs.errors import BadNumber
from guardrungs.windows import delayed

ROW_KINDS = ("on", "off")


def _is_timer_row(row):
    if not is_listed(row):
        return False
    for pair in row:
        if not is_listed(pair) or len(pair) != 2:
            return False
        if pair[0] not in ROW_KINDS or not is_whole(pair[1], 0, None):
            return False
    return True


def _told_row(row, word):
    """The row as a tuple of tuples; BadNumber with the word if it is none."""
    if not _is_timer_row(row):
        raise BadNumber(word)
    return tuple([tuple(pair) for pair in row])


def _check_delay(delay, word):
    if not is_whole(delay, 0, None):
        raise BadNumber(word)


def check_timer_row(row):
    """Raise BadNumber unless this is a row of timers."""
    _told_row(row, "row")


def _worked(kind, number, bits):
    """The bits of one timer: on n tells 1 behind more than n ones, off n tells 0 behind more than n zeros."""
    wanted = 1 if kind == "on" else 0
    met = 0 if kind == "on" else number + 1
    told = []
    for bit in bits:
        met = met + 1 if bit == wanted else 0
        told.append(wanted if met > number else 1 - wanted)
    return told


def _row_bits(row, bits, delay):
    for kind, number in row:
        bits = _worked(kind, number, bits)
    return delayed(bits, delay)


def row_bits(row, bits, *, delay=0):
    """The bits that come out of the row."""
    told = _told_row(row, "row")
    handed_in = check_bits(bits)
    _check_delay(delay, "delay")
    return _row_bits(told, handed_in, delay)


def _rule_at(row, place):
    """The rule of the place; None if there is none."""
    if row[place][1] == 0:
        return "nothing"
    if place + 1 < len(row) and row[place + 1][0] == row[place][0]:
        return "added"
    # The place has no equal neighbour, so the kinds of three in turn are right if the third one's is.
    if place + 2 >= len(row) or row[place + 2][0] != row[place][0] or row[place + 1][1] > row[place][1]:
        return None
    return "swing" if row[place + 1][1] <= row[place + 2][1] else "tail"


def _rules(row):
    """All places that have a rule, ascending, with their rules."""
    told = [(place, _rule_at(row, place)) for place in range(len(row))]
    return [(place, rule) for place, rule in told if rule is not None]


def _used(row, delay, place, rule):
    """The row and the delay behind this rule of this place."""
    if rule == "nothing":
        return row[:place] + row[place + 1:], delay
    kind, first = row[place]
    second_kind, second = row[place + 1]
    if rule == "added":
        return row[:place] + ((kind, first + second),) + row[place + 2:], delay
    third = row[place + 2][1]
    if rule == "swing":
        return row[:place] + ((kind, first + third - second),) + row[place + 3:], delay + second
    return row[:place + 1] + ((second_kind, second - third),) + row[place + 3:], delay + third


def _one_rule(row, delay):
    """The row and the delay behind one rule, and the rule; None if the row is normal."""
    rules = _rules(row)
    if not rules:
        return None
    first = [pair for pair in rules if pair[1] in ("nothing", "added")] + rules
    place, rule = first[0]
    return _used(row, delay, place, rule) + (rule,)


def _normal(row, delay):
    told = _one_rule(row, delay)
    while told is not None:
        row, delay, _ = told
        told = _one_rule(row, delay)
    return row, delay


def normal(row, *, delay=0):
    """The normal row and its delay."""
    told = _told_row(row, "row")
    _check_delay(delay, "delay")
    return _normal(told, delay)


def one_rule(row, delay):
    """The row and the delay behind one rule, and the rule; None if the row is normal."""
    told = _told_row(row, "row")
    _check_delay(delay, "delay")
    return _one_rule(told, delay)


def rules_at(row):
    """Each place that has a rule, ascending, with its rule."""
    return tuple(_rules(_told_row(row, "row")))


def use(row, delay, place):
    """The row and the delay behind the rule of this place."""
    told = _told_row(row, "row")
    _check_delay(delay, "delay")
    if not is_whole(place, 0, len(told) - 1) or _rule_at(told, place) is None:
        raise BadNumber("place")
    return _used(told, delay, place, _rule_at(told, place))


def _both_normal(row, delay, other, other_delay):
    """The two normal rows, each with its delay."""
    told = _told_row(row, "row")
    _check_delay(delay, "delay")
    other_told = _told_row(other, "other")
    _check_delay(other_delay, "other_delay")
    return _normal(told, delay), _normal(other_told, other_delay)


def alike_rows(row, delay, other, other_delay):
    """True if the two rows with their delays give the same bits for all bits."""
    first, second = _both_normal(row, delay, other, other_delay)
    return first == second


def told_by(row, delay, other, other_delay):
    """Bits for which the two rows with their delays give unlike bits; None if there are none."""
    first, second = _both_normal(row, delay, other, other_delay)
    if first == second:
        return None
    longest = max([sum([number for _, number in told]) + late for told, late in (first, second)]) + 1
    # Ones and then zeros tell apart what delays ones, or zeros, for another time in all.
    told = _unlike_bits(first, second, [1] * longest + [0] * longest)
    return told if told is not None else _unlike_bits(first, second, _parting_bits(first[0], second[0], longest))


def _unlike_bits(first, second, bits):
    """The bits up to the first one at which two rows with their delays give unlike bits; None if there is none."""
    outs = [_row_bits(row, bits, delay) for row, delay in (first, second)]
    for place, (bit, other_bit) in enumerate(zip(outs[0], outs[1])):
        if bit != other_bit:
            return tuple(bits[:place + 1])
    return None


def _parting_bits(row, other, longest):
    """Bits that tell apart two unlike normal rows whose sums with their delays are the same.

    The common first timers are undone from the last one to the first. Behind them the one row tells runs that are
    longer than its next number, or rows of such runs with gaps that its timer behind fills; the other row has another
    next timer and tells nothing of them.
    """
    common = 0
    while common < min(len(row), len(other)) and row[common] == other[common]:
        common += 1
    bits = _parting_end(row[common:], other[common:], longest)
    for kind, number in reversed(list(row[:common])):
        bits = _undone(kind, number, bits)
    return bits


def _parting_end(row, other, longest):
    """The bits for two rows that differ at once; longest is greater than the sums of the rows with their delays."""
    if row and other and row[0][0] != other[0][0]:
        gap = row[0][1] if row[0][0] == "off" else other[0][1]
        return ([1] + [0] * gap) * longest
    short, long = (row, other) if not row or (other and row[0][1] < other[0][1]) else (other, row)
    kind, most = long[0]
    least = short[0][1] if short else 0
    wanted = 1 if kind == "on" else 0
    if len(short) > 1 and short[1][1] > least:
        runs = [wanted] * (least + 1) + [1 - wanted] * (short[1][1] - least)
        bits = runs * (longest // len(runs) + 1)
    else:
        bits = [wanted] * most + [1 - wanted] * longest
    # Zeros are missed only behind ones that last longer than all timers need.
    ahead = sum([number for _, number in row + other]) + 1
    return bits if kind == "on" else [1] * ahead + bits


def _undone(kind, number, bits):
    """Bits that the timer leads to the bits handed in, up to what its next timer changes in any case."""
    if kind == "on":
        ahead = [0] * number + bits
        return [max(ahead[at:at + number + 1]) for at in range(len(ahead))]
    return [min(bits[at:at + number + 1]) for at in range(len(bits))]


def trims(row):
    """The sum of the numbers of "on" and that of the numbers of "off"."""
    told = _told_row(row, "row")
    ones = sum([number for kind, number in told if kind == "on"])
    return (ones, sum([number for _, number in told]) - ones)


def signed_path(row):
    """0 and the sums of the first numbers, those of "on" added and those of "off" taken away."""
    path = [0]
    for kind, number in _told_row(row, "row"):
        path.append(path[-1] + number if kind == "on" else path[-1] - number)
    return tuple(path)
