"""How long books remember what they read."""

from guardrungs.bits import is_whole, mask_of, places_in, row_at
from guardrungs.errors import BadNumber
from guardrungs.least import least, numbered, splits, telling_row, ways_to
from guardrungs.machines import check_inputs, machine_of


class Memory:
    """The least machine of a book, and which of its standings rows of readings of some length lead together."""

    def __init__(self, book):
        self.machine = least(machine_of(book))
        self.inputs = len(book.inputs)
        self.behinds = [[behind for _, behind in row] for row in self.machine.rows]
        self.merges = _merges(self.behinds)

    def merged(self, k):
        """For each standing its class: all rows of k readings lead the standings of one class to one standing."""
        return self.merges[min(k, len(self.merges) - 1)]

    def told_row(self, s, t, k):
        """Readings that keep s and t, of unlike classes for k, apart for k readings, and then tell them apart."""
        told = []
        for left in range(k - 1, -1, -1):
            now = self.merged(left)
            apart = [now[behind] != now[other] for behind, other in zip(self.behinds[s], self.behinds[t])]
            number = apart.index(True)
            told.append(row_at(number, self.inputs))
            s, t = self.behinds[s][number], self.behinds[t][number]
        rows = self.machine.rows
        return tuple(told) + telling_row(rows, splits(rows), s, t, self.inputs)

    def mates(self):
        """For each standing, as bits of an integer, the standings that rows of one length lead to beside it."""
        follows = [sorted(set(row)) for row in self.behinds]
        masks = [mask_of(row) for row in follows]
        told = [0] * len(follows)
        fresh = [0] * len(follows)
        told[0] = 1
        fresh[0] = 1
        left = [0]
        while left:
            standing = left.pop()
            image = 0
            for mate in places_in(fresh[standing]):
                image = image | masks[mate]
            fresh[standing] = 0
            for behind in follows[standing]:
                new = image & (image ^ told[behind])
                told[behind] = told[behind] | new
                if new != 0 and fresh[behind] == 0:
                    left.append(behind)
                fresh[behind] = fresh[behind] | new
        return told

    def heals(self, mates, k):
        """True if all standings that rows of one length lead to are in one class for k."""
        now = self.merged(k)
        masks = {}
        for standing, number in enumerate(now):
            masks[number] = masks.get(number, 0) | (1 << standing)
        return all([told & masks[number] == told for told, number in zip(mates, now)])


def _merges(behinds):
    """For 0, 1, 2, .. readings the classes of standings that they lead together, as long as these change."""
    merges = [list(range(len(behinds)))]
    while True:
        now = merges[-1]
        following = numbered([tuple([now[behind] for behind in row]) for row in behinds])
        if max(following) == max(now):
            return merges
        merges.append(following)


def forgetting(book):
    """The least k with which the book forgets; None if there is none."""
    merges = Memory(book).merges
    return len(merges) - 1 if max(merges[-1]) == 0 else None


def _check_k(k):
    if not is_whole(k, 0, 4000):
        raise BadNumber("k")


def remembered(book, k):
    """Two rows that show that the book does not forget with k; None if it does."""
    check_inputs(book)
    _check_k(k)
    memory = Memory(book)
    now = memory.merged(k)
    if max(now) == 0:
        return None
    other = now.index(1)
    way = ways_to(memory.machine.rows)[other]
    behind = memory.told_row(0, other, k)
    return behind, tuple([row_at(number, memory.inputs) for number in way]) + behind


def healing(book):
    """The least k with which the book heals; None if there is none."""
    memory = Memory(book)
    mates = memory.mates()
    for k in range(len(memory.merges)):
        if memory.heals(mates, k):
            return k
    return None


def unhealed(book, k):
    """Two rows of one length that show that the book does not heal with k; None if it does."""
    check_inputs(book)
    _check_k(k)
    memory = Memory(book)
    if memory.heals(memory.mates(), k):
        return None
    now = memory.merged(k)
    # For each length the standings that rows of this length lead to, each with the standing and the reading ahead.
    levels = [{0: (0, 0)}]
    while len({now[standing]: True for standing in levels[-1]}) < 2:
        following = {}
        for standing in levels[-1]:
            for number, behind in enumerate(memory.behinds[standing]):
                following.setdefault(behind, (standing, number))
        levels.append(following)
    standings = list(levels[-1])
    s = standings[0]
    t = [standing for standing in standings if now[standing] != now[s]][0]
    behind = memory.told_row(s, t, k)
    return _row_back(memory, levels, s) + behind, _row_back(memory, levels, t) + behind


def _row_back(memory, levels, standing):
    """The row of readings that leads to this standing of the last level."""
    told = []
    for level in reversed(list(levels[1:])):
        standing, number = level[standing]
        told.append(row_at(number, memory.inputs))
    return tuple(reversed(list(told)))


def recent(book, readings, k):
    """The last answer if the last k + 1 readings alone tell it; else None."""
    check_inputs(book)
    rows = [book.checked(reading) for reading in readings]
    if not is_whole(k, 0, len(rows) - 1):
        raise BadNumber("k")
    machine = machine_of(book)
    now = list(range(len(machine.rows)))
    answers = []
    for row in rows[len(rows) - k - 1:]:
        pairs = [machine(standing, row) for standing in now]
        answers = sorted({answer for answer, _ in pairs})
        now = sorted({behind for _, behind in pairs})
    return answers[0] if len(answers) == 1 else None
