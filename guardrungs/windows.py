"""What timers and counters tell of the bits that they are worked with."""

from guardrungs.bits import check_bits, check_row, is_whole
from guardrungs.errors import BadNumber
from guardrungs.least import least
from guardrungs.machines import machine_of
from guardrungs.rungs import Rungs
from guardrungs.ticks import check_counter, check_timer, counter_step, timer_start, timer_step


def timer_bits(kind, number, bits):
    """The timer's bits, worked with one bit after the other."""
    check_timer(kind, number)
    told = []
    count = timer_start(kind, number)
    for bit in check_bits(bits):
        out, count = timer_step(kind, number, count, bit)
        told.append(out)
    return tuple(told)


def counter_bits(number, bits, clears):
    """The counter's bits, worked with one bit and one clearing bit after the other."""
    check_counter(number)
    row = check_bits(bits)
    told = []
    count = 0
    last = 0
    for bit, clear in zip(row, check_row(clears, len(row))):
        out, count, last = counter_step(number, count, last, bit, clear)
        told.append(out)
    return tuple(told)


def timer_machine(kind, number):
    """The least machine of the timer."""
    check_timer(kind, number)
    rungs = ((("name", "feed"), (("feed", "t"),)), (("name", "t"), (("put", "out"),)))
    return least(machine_of(Rungs(("feed",), ("out",), (), rungs, timers=(("t", kind, number),))))


def counter_machine(number):
    """The least machine of the counter."""
    check_counter(number)
    rungs = ((("name", "feed"), (("count", "u", "clear"),)), (("name", "u"), (("put", "out"),)))
    return least(machine_of(Rungs(("feed", "clear"), ("out",), (), rungs, counters=(("u", number),))))


def delayed(bits, d):
    """The bits d cycles later, zeros ahead, cut to the same length."""
    row = check_bits(bits)
    if not is_whole(d, 0, None):
        raise BadNumber("d")
    late = min(d, len(row))
    return (0,) * late + row[:len(row) - late]
