"""Frames: rungs of which it is told alone what they read and write."""

from guardrungs.bits import is_listed, is_order
from guardrungs.errors import BadBook, BadFormula, BadNumber, TooMany
from guardrungs.formulas import has_edges, is_formula, is_name
from guardrungs.rungs import Rungs


def check_frame(frame):
    """Raise what the frame is refused by."""
    if len(frame) > 8:
        raise TooMany(8)
    written = {}
    for place, rung in enumerate(frame):
        if not _is_frame_rung(rung) or rung[1] in written:
            raise BadBook("frame", place)
        written[rung[1]] = True


def _is_frame_rung(rung):
    if not isinstance(rung, tuple) or len(rung) != 2 or not isinstance(rung[0], tuple):
        return False
    reads, name = rung
    if not is_name(name) or not all([is_name(read) for read in reads]):
        return False
    return all([ahead < behind for ahead, behind in zip(reads, reads[1:])])


def _check_order(frame, order, word):
    if not is_order(order, len(frame)):
        raise BadNumber(word)


def _check_orders(frame, order, other):
    check_frame(frame)
    _check_order(frame, order, "order")
    _check_order(frame, other, "other")


def _touch(rung, other):
    return rung[1] in other[0] or other[1] in rung[0]


def _touching(frame):
    places = range(len(frame))
    return [(i, j) for j in places for i in range(j) if _touch(frame[i], frame[j])]


def touching(frame):
    """The pairs of places that touch, ascending."""
    check_frame(frame)
    return tuple(sorted(_touching(frame)))


def _places_in(order):
    """For each place of the frame where it stands in the order."""
    return {place: at for at, place in enumerate(order)}


def _directions(frame, order):
    stands = _places_in(order)
    return tuple(sorted([(i, j) if stands[i] < stands[j] else (j, i) for i, j in _touching(frame)]))


def directions(frame, order):
    """The touching pairs, the place first whose rung stands first in the order; ascending."""
    check_frame(frame)
    _check_order(frame, order, "order")
    return _directions(frame, order)


def same_for_all(frame, order, other):
    """True if the two orders are alike for all fillings."""
    _check_orders(frame, order, other)
    return _directions(frame, order) == _directions(frame, other)


def telling(frame, order, other):
    """A filling that tells the two orders apart in the first cycle, whatever is read; None if there is none."""
    _check_orders(frame, order, other)
    old = _directions(frame, order)
    turned_round = [(i, j) for i, j in _directions(frame, other) if (i, j) not in old]
    if not turned_round:
        return None
    writer, reader = turned_round[0]
    if frame[writer][1] not in frame[reader][0]:
        writer, reader = reader, writer
    # The reader sees a 1 exactly if the writer stands ahead of it: at the start all bits are 0.
    formulas = [("bit", 0)] * len(frame)
    formulas[writer] = ("bit", 1)
    formulas[reader] = ("name", frame[writer][1])
    return tuple(formulas)


def _check_filling(frame, filling):
    if not is_listed(filling) or len(filling) != len(frame):
        raise BadFormula()
    for formula, (reads, _) in zip(filling, frame):
        if not is_formula(formula, {name: True for name in reads}) or has_edges(formula):
            raise BadFormula()


def filled(frame, filling, order):
    """The book of rungs of the filling, in this order."""
    check_frame(frame)
    _check_filling(frame, filling)
    _check_order(frame, order, "order")
    outputs = [name for _, name in frame]
    inputs = sorted({name for reads, _ in frame for name in reads if name not in outputs})
    rungs = [(filling[place], (("put", outputs[place]),)) for place in order]
    return Rungs(inputs, outputs, (), rungs)


def swaps(frame, order, other):
    """As few swaps of neighbours as lead the one order to the other; None if no swaps do."""
    _check_orders(frame, order, other)
    if _directions(frame, order) != _directions(frame, other):
        return None
    goal = _places_in(other)
    stands = [goal[place] for place in order]
    told = []
    for end in range(len(stands) - 1, 0, -1):
        for at in range(end):
            if stands[at] > stands[at + 1]:
                stands[at], stands[at + 1] = stands[at + 1], stands[at]
                told.append(at)
    return tuple(told)


def count_orders(frame):
    """The number of orders no two of which are alike for all fillings."""
    check_frame(frame)
    touched = [0] * len(frame)
    for i, j in _touching(frame):
        touched[i] = touched[i] | (1 << j)
        touched[j] = touched[j] | (1 << i)
    # Lots of places are numbers here. The directions of a lot are told by the lots of places that stand
    # ahead of all that they touch; each is met once for each part of it, and the signs leave just one.
    counts = [1]
    signs = [-1]
    for lot in range(1, 1 << len(frame)):
        signs.append(-signs[lot & (lot - 1)])
        firsts = [first for first in range(1, lot + 1) if first & lot == first and _apart(first, touched)]
        counts.append(sum([signs[first] * counts[lot ^ first] for first in firsts]))
    return counts[-1]


def _apart(lot, touched):
    """True if no two places of the lot touch."""
    return all([lot & touched[place] == 0 for place in range(len(touched)) if (lot >> place) & 1 == 1])
