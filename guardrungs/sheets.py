"""Sheets of blocks that are joined by wires."""

from heapq import heapify, heappop, heappush

from guardrungs.bits import is_whole, told_groups
from guardrungs.books import Book, check_names
from guardrungs.errors import BadBook
from guardrungs.formulas import is_name
from guardrungs.ticks import KINDS, counter_cases, is_counter, is_timer, timer_cases, timer_start

# How many wires a block of each kind reads.
READS = {
    "zero": 0, "one": 0, "not": 1, "and": 2, "or": 2, "odd": 2, "choose": 3,
    "hold": 2, "on": 1, "off": 1, "pulse": 1, "count": 2, "cell": 1,
}


class Sheet(Book):
    """A book of blocks; each block makes the wire that has its name."""

    def __init__(self, inputs, blocks, outputs):
        self.inputs = tuple(inputs)
        self.blocks = tuple(blocks)
        self.wiring = tuple(outputs)
        self._check()
        self.outputs = tuple([name for name, _ in self.wiring])
        self.order = order_of(self.inputs, self.blocks)
        if self.order is None:
            raise BadBook("ring", _first_in_ring(self.blocks))

    def _check(self):
        names = self.inputs + tuple([_wire_of(block) for block in self.blocks])
        check_names(names)
        wires = {name: True for name in names}
        for place, block in enumerate(self.blocks):
            if not _is_block(block, wires):
                raise BadBook("block", place)
        met = {name: True for name in self.inputs}
        for place, output in enumerate(self.wiring):
            if not _is_output(output, wires) or output[0] in met:
                raise BadBook("output", place)
            met[output[0]] = True

    @property
    def kept(self):
        """The number of cells and holds together."""
        return len([block for block in self.blocks if block[1] in ("cell", "hold")])

    def start(self):
        """All 0, but the counts of timers off."""
        standing = []
        for _, kind, _, number in self.blocks:
            if kind in ("cell", "hold"):
                standing.append(0)
            elif kind in KINDS:
                standing.append(timer_start(kind, number))
            elif kind == "count":
                standing.extend([0, 0])
        return tuple(standing)

    def step(self, standing, reading):
        """The answer and the next standing."""
        return self.groups(standing, self.checked(reading), 1)[0][:2]

    def wires_in(self, standing, reading):
        """The blocks' bits, in the blocks' order, in the cycle that begins here."""
        bits, _ = self._worked(standing, self.checked(reading), 1)
        return tuple([bits[wire] for wire, _, _, _ in self.blocks])

    def groups(self, standing, columns, full):
        """For groups of cases answer, next standing and column."""
        bits, counts = self._worked(standing, columns, full)
        kept = []
        for wire, kind, wires, _ in self.blocks:
            if kind == "cell":
                kept.append(bits[wires[0]])
            elif kind == "hold":
                kept.append(bits[wire])
            elif kind in KINDS:
                kept.append(counts[wire])
            elif kind == "count":
                kept.extend([counts[wire], bits[wires[0]]])
        return told_groups([bits[wire] for _, wire in self.wiring], kept, full)

    def _worked(self, standing, columns, full):
        """For each wire its column in this cycle, and for each timer and counter its counts behind it."""
        bits = {name: column for name, column in zip(self.inputs, columns)}
        counts = {}
        kept = self._kept_at(standing)
        for wire, kind, _, _ in self.blocks:
            if kind == "cell":
                bits[wire] = full * kept[wire]
        for place in self.order:
            wire, kind, wires, number = self.blocks[place]
            reads = [bits[name] for name in wires]
            if kind in KINDS:
                bits[wire], counts[wire] = timer_cases(kind, number, kept[wire], reads[0], full)
            elif kind == "count":
                count, last = kept[wire]
                bits[wire], counts[wire] = counter_cases(number, count, last, reads[0], reads[1], full)
            elif kind == "hold":
                bits[wire] = (reads[0] | full * kept[wire]) & (full ^ reads[1])
            else:
                bits[wire] = _gate(kind, reads, full)
        return bits, counts

    def _kept_at(self, standing):
        """What each block keeps at this standing: a number, or for a counter a pair."""
        kept = {}
        at = 0
        for wire, kind, _, _ in self.blocks:
            if kind == "count":
                kept[wire] = (standing[at], standing[at + 1])
                at += 2
            elif kind in ("cell", "hold") or kind in KINDS:
                kept[wire] = standing[at]
                at += 1
        return kept


def _gate(kind, reads, full):
    """The column of a block that keeps nothing."""
    if kind == "and":
        return reads[0] & reads[1]
    if kind == "or":
        return reads[0] | reads[1]
    if kind == "not":
        return full ^ reads[0]
    if kind == "odd":
        return reads[0] ^ reads[1]
    if kind == "choose":
        return (reads[1] & (full ^ reads[0])) | (reads[2] & reads[0])
    return full if kind == "one" else 0


def _wire_of(block):
    """The wire that the block makes; None for what is no tuple of four parts."""
    return block[0] if isinstance(block, tuple) and len(block) == 4 else None


def _is_block(block, wires):
    _, kind, reads, number = block
    if not isinstance(kind, str) or kind not in READS or not isinstance(reads, tuple):
        return False
    if len(reads) != READS[kind] or not all([isinstance(wire, str) and wire in wires for wire in reads]):
        return False
    return _fits_kind(kind, number)


def _fits_kind(kind, number):
    """True if the number is in the range of this kind of blocks."""
    if kind in KINDS:
        return is_timer(kind, number)
    if kind == "count":
        return is_counter(number)
    return is_whole(number, 0, 0)


def _is_output(output, wires):
    if not isinstance(output, tuple) or len(output) != 2 or not is_name(output[0]):
        return False
    return isinstance(output[1], str) and output[1] in wires


def _direct_reads(blocks):
    """For each block that is direct, by its place, the places of the direct blocks that it reads, each once."""
    makers = {block[0]: place for place, block in enumerate(blocks) if block[1] != "cell"}
    reads = {}
    for place, (_, kind, wires, _) in enumerate(blocks):
        if kind != "cell":
            reads[place] = sorted({makers[wire] for wire in wires if wire in makers})
    return reads


def order_of(inputs, blocks):
    """The places of the direct blocks, each behind those it reads, the least first; None if there is a ring."""
    reads = _direct_reads(blocks)
    readers = {place: [] for place in reads}
    lacking = {}
    for place, ahead in list(reads.items()):
        lacking[place] = len(ahead)
        for maker in list(ahead):
            readers[maker].append(place)
    ready = [place for place, many in lacking.items() if many == 0]
    heapify(ready)
    order = []
    while ready:
        place = heappop(ready)
        order.append(place)
        for reader in readers[place]:
            lacking[reader] -= 1
            if lacking[reader] == 0:
                heappush(ready, reader)
    return tuple(order) if len(order) == len(reads) else None


def _ring_through(place, reads):
    """A shortest ring through the block at this place, as a list of places; None if it is in no ring."""
    behind = {}
    left = [place]
    at = 0
    while at < len(left) and place not in behind:
        reader = left[at]
        for maker in reads[reader]:
            if maker not in behind:
                behind[maker] = reader
                left.append(maker)
        at += 1
    if place not in behind:
        return None
    # behind tells by which block each one is read, so this goes from the place to its readers.
    ring = [place]
    while behind[ring[-1]] != place:
        ring.append(behind[ring[-1]])
    return ring


def _first_in_ring(blocks):
    """The least place of a block in a ring; None if there is no ring."""
    reads = _direct_reads(blocks)
    for place in sorted(reads):
        if _ring_through(place, reads) is not None:
            return place
    return None


def ring_of(inputs, blocks):
    """A ring as a tuple of places; None if there is none."""
    place = _first_in_ring(blocks)
    return None if place is None else tuple(_ring_through(place, _direct_reads(blocks)))
