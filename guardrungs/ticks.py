"""Timers and counters, worked cycle by cycle."""

from guardrungs.bits import is_whole
from guardrungs.errors import BadNumber

KINDS = ("on", "off", "pulse")


def is_timer(kind, number):
    """True if this is a kind of timers and a number in its range."""
    return kind in KINDS and is_whole(number, 1 if kind == "pulse" else 0, 16)


def is_counter(number):
    """True if the number is in the range of counters."""
    return is_whole(number, 1, 16)


def check_timer(kind, number):
    """Raise BadNumber unless this is a timer's kind and number."""
    if kind not in KINDS:
        raise BadNumber("kind")
    if not is_timer(kind, number):
        raise BadNumber("number")


def check_counter(number):
    """Raise BadNumber unless this is a counter's number."""
    if not is_counter(number):
        raise BadNumber("number")


def timer_start(kind, number):
    """The timer's count at the start."""
    check_timer(kind, number)
    return number if kind == "off" else 0


def _pulse_step(number, count, bit):
    left = count // 2
    last = count & 1
    if left > 0:
        return (1, 2 * (left - 1) + bit)
    if bit == 1 and last == 0:
        return (1, 2 * (number - 1) + bit)
    return (0, bit)


def timer_step(kind, number, count, bit):
    """The timer's bit and its new count, worked with bit."""
    check_timer(kind, number)
    if kind == "pulse":
        return _pulse_step(number, count, bit)
    more = min(count + 1, number)
    if kind == "on":
        return (1, more) if bit == 1 and count == number else (0, more if bit == 1 else 0)
    if bit == 1:
        return (1, 0)
    return (1 if count < number else 0, more)


def counter_step(number, count, last, bit, clear):
    """The counter's bit, its new count and the bit counted last, worked with bit and clear."""
    check_counter(number)
    if clear == 1:
        count = 0
    elif bit == 1 and last == 0:
        count = min(count + 1, number)
    return (1 if count == number else 0, count, bit)


def timer_cases(kind, number, count, column, full):
    """The timer worked with a column: the column of its bit, and its new counts with their columns."""
    low, count_low = timer_step(kind, number, count, 0)
    high, count_high = timer_step(kind, number, count, 1)
    bits = (full * high & column) | (full * low & (full ^ column))
    return bits, [(count_low, full ^ column), (count_high, column)]


def counter_cases(number, count, last, column, clear, full):
    """The counter worked with two columns: the column of its bit, and its new counts with their columns."""
    stays, count_stays, _ = counter_step(number, count, last, 0, 0)
    grows, count_grows, _ = counter_step(number, count, last, 1, 0)
    bits = ((full * grows & column) | (full * stays & (full ^ column))) & (full ^ clear)
    others = full ^ clear
    return bits, [(0, clear), (count_grows, column & others), (count_stays, (full ^ column) & others)]
