"""Rank orders of tasks that do the same whatever the tasks' formulas are."""

from math import gcd, lcm

from guardrungs.bits import is_listed, is_order
from guardrungs.errors import BadFormula, BadNumber, TooMany
from guardrungs.formulas import has_edges, is_formula
from guardrungs.frames import check_frame, touching
from guardrungs.rungs import Rungs
from guardrungs.tasks import Tasks, is_time


def due_together(period, offset, other_period, other_offset):
    """True exactly if some tick is due for both."""
    return (offset - other_offset) % gcd(period, other_period) == 0


def first_together(period, offset, other_period, other_offset):
    """The first tick due for both; None if there is none."""
    for tick in range(lcm(period, other_period)):
        if tick % period == offset and tick % other_period == other_offset:
            return tick
    return None


def _check_frame(frame):
    if len(frame) > 4:
        raise TooMany(4)
    check_frame(frame)


def _check_filling(frame, filling):
    if not is_listed(filling) or len(filling) != len(frame):
        raise BadFormula()
    for place, (formula, (reads, _)) in enumerate(zip(filling, frame)):
        names = {name: True for name in reads + (f"u{place}",)}
        if not is_formula(formula, names) or has_edges(formula):
            raise BadFormula()


def _check_times(frame, times):
    if not is_listed(times) or len(times) != len(frame):
        raise BadNumber("times")
    for pair in times:
        if not is_listed(pair) or len(pair) != 2 or not is_time(pair[0], pair[1], 12):
            raise BadNumber("times")


def _check_order(frame, order, word):
    if not is_order(order, len(frame)):
        raise BadNumber(word)


def _turned_pairs(frame, times, order, other):
    """The pairs of places that touch, are ever due together and do not stand in the same order in both orders."""
    _check_frame(frame)
    _check_times(frame, times)
    _check_order(frame, order, "order")
    _check_order(frame, other, "other")
    stands = {place: at for at, place in enumerate(order)}
    others = {place: at for at, place in enumerate(other)}
    turned_round = [(i, j) for i, j in touching(frame) if (stands[i] < stands[j]) != (others[i] < others[j])]
    return [(i, j) for i, j in turned_round if due_together(times[i][0], times[i][1], times[j][0], times[j][1])]


def same_for_all_ranks(frame, times, order, other):
    """True exactly if the two rank orders do the same, whatever the formulas are."""
    return not _turned_pairs(frame, times, order, other)


def ranked(frame, filling, times, order):
    """The tasks of the filling, in this rank order."""
    _check_frame(frame)
    _check_filling(frame, filling)
    _check_times(frame, times)
    _check_order(frame, order, "order")
    tasks = []
    for place in order:
        reads, name = frame[place]
        inputs = [read for read in reads if read != name] + [f"u{place}"]
        book = Rungs(inputs, (name,), (), ((filling[place], (("put", name),)),))
        tasks.append((book, times[place][0], times[place][1]))
    outputs = [name for _, name in frame]
    inputs = sorted({name for reads, _ in frame for name in reads if name not in outputs})
    return Tasks(inputs + [f"u{place}" for place in range(len(frame))], outputs, tasks)


def telling_ranks(frame, times, order, other):
    """A filling and a tick that tell the two rank orders apart; None if they do the same."""
    pairs = _turned_pairs(frame, times, order, other)
    if not pairs:
        return None
    writer, reader = pairs[0]
    if frame[writer][1] not in frame[reader][0]:
        writer, reader = reader, writer
    # The writer puts a 1 at the tick alone, so the reader puts one exactly if the writer is more urgent.
    formulas = [("bit", 0)] * len(frame)
    formulas[writer] = ("name", f"u{writer}")
    formulas[reader] = ("name", frame[writer][1])
    tick = first_together(times[writer][0], times[writer][1], times[reader][0], times[reader][1])
    return tuple(formulas), tick
