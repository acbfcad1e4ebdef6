"""Books of rungs whose timers count longer, read rows whose readings are held."""

from guardrungs.bits import check_bits, is_listed, is_whole, row_at
from guardrungs.errors import BadNumber, BadRow, TooMany
from guardrungs.least import least
from guardrungs.machines import check_inputs
from guardrungs.rungs import Rungs


def _check_k(k):
    if not is_whole(k, 1, 16):
        raise BadNumber("k")


def scaled(book, k):
    """The book with the number of each timer multiplied by k."""
    _check_k(k)
    timers = [(name, kind, number * k) for name, kind, number in book.timers]
    if max([number for _, _, number in timers], default=0) > 16:
        raise BadNumber("k")
    return Rungs(book.inputs, book.outputs, book.cells, book.rungs, timers=timers, counters=book.counters)


def held(readings, k):
    """Each reading k times."""
    if not is_listed(readings):
        raise BadRow(-1)
    rows = [check_bits(reading) for reading in readings]
    _check_k(k)
    return tuple([row for row in rows for _ in range(k)])


class Holder:
    """Works a book with readings that are held for k cycles; what has been worked once is kept."""

    def __init__(self, book, k):
        self.book = book
        self.k = k
        self.first = {}
        self.later = {}

    def each_step(self, standing):
        """For each reading, in counting order, the answer and the next standing."""
        if standing not in self.first:
            self.first[standing] = self.book.step_each(standing)
        return self.first[standing]

    def one_step(self, standing, number):
        """The answer to the reading with this number, and the next standing."""
        if (standing, number) not in self.later:
            reading = row_at(number, len(self.book.inputs))
            self.later[(standing, number)] = self.book.step(standing, reading)
        return self.later[(standing, number)]

    def behind(self, standing, number, wanted):
        """The standing behind the held reading with this number; None if some answer is another one than wanted."""
        answer, now = self.each_step(standing)[number]
        if answer != wanted:
            return None
        for _ in range(self.k - 1):
            answer, behind = self.one_step(now, number)
            if answer != wanted:
                return None
            if behind == now:
                return now
            now = behind
        return now


def held_answers(book, k):
    """The least shortest row of readings whose last answer is not held by the scaled book; None if all are."""
    holder = Holder(scaled(book, k), k)
    check_inputs(book)
    plain = Holder(book, 1)
    start = (book.start(), holder.book.start())
    rows = {start: ()}
    level = [start]
    while level:
        if len(rows) > 2000:
            raise TooMany(2000)
        following = []
        for pair in list(level):
            for number, (answer, behind) in list(enumerate(plain.each_step(pair[0]))):
                held_behind = holder.behind(pair[1], number, answer)
                if held_behind is None:
                    return tuple([row_at(one, len(book.inputs)) for one in rows[pair] + (number,)])
                # Of more pairs than the limit lets be, it is enough to know that there are some.
                if (behind, held_behind) not in rows and len(rows) <= 2000:
                    rows[(behind, held_behind)] = rows[pair] + (number,)
                    following.append((behind, held_behind))
        level = following
    return None


def settles(machine):
    """True if each reading that is read again at once gets the same answer and leads to an alike standing."""
    rows = least(machine).rows
    for row in rows:
        for number, pair in enumerate(row):
            if rows[pair[1]][number] != pair:
                return False
    return True
