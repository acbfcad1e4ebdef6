"""Moments at which a running machine may be changed, and machines that are changed at the first of them."""

from guardrungs.bits import is_listed, is_whole, row_at
from guardrungs.books import Book
from guardrungs.errors import BadNumber, OtherShape
from guardrungs.longest import Longest
from guardrungs.rightness import Behind, check_plain, check_shapes, reached_from


def _check_rights(old, rights):
    if len(rights) != len(old.rows):
        raise OtherShape()


def _unsafe(right):
    return right is not None and len(right) == 0


class Waiting:
    """The unsafe standings that are reached, and the rows of them."""

    def __init__(self, old, rights):
        reached = reached_from(old)
        self.standings = [s for s in range(len(old.rows)) if s in reached and _unsafe(rights[s])]
        self.places = {s: place for place, s in enumerate(self.standings)}
        follows = []
        for s in self.standings:
            behinds = {behind: True for _, behind in old.rows[s]}
            follows.append([self.places[behind] for behind in behinds if behind in self.places])
        self.rows = Longest(follows, [True] * len(follows))

    def longest(self):
        """The length of the longest row; None if there are ever longer ones."""
        return self.rows.longest(list(range(len(self.standings))))


def unsafe_within(old, rights):
    """The waiting number for all readings; None if there is none."""
    _check_rights(old, rights)
    return Waiting(old, rights).longest()


def unsafe_within_loop(arena, old, rights):
    """The waiting number around the arena; None if there is none."""
    check_plain(arena, old)
    _check_rights(old, rights)
    behind = Behind(arena, old)
    numbers = [number for number, (_, _, s) in enumerate(behind.places) if _unsafe(rights[s])]
    places = {number: place for place, number in enumerate(numbers)}
    # Places lead on by joints, which do not count.
    hubs = {}
    follows = []
    for number in list(numbers):
        joint = behind.joints[number]
        if joint not in hubs:
            hubs[joint] = len(numbers) + len(hubs)
        follows.append([hubs[joint]])
    for joint in list(hubs):
        follows.append([places[following] for following in behind.behinds[joint] if following in places])
    counts = [place < len(numbers) for place in range(len(follows))]
    return Longest(follows, counts).longest(list(range(len(numbers))))


def _readings_through(old, standings):
    """Readings that lead old from each of these standings to the next one."""
    told = []
    for s, behind in zip(standings, standings[1:]):
        number = [following for _, following in old.rows[s]].index(behind)
        told.append(row_at(number, len(old.inputs)))
    return tuple(told)


def _way_to(old, standing):
    """The standings on a shortest way from the start to this one."""
    before = {0: None}
    left = [0]
    at = 0
    while standing not in before:
        ahead = left[at]
        for behind in list({behind: True for _, behind in old.rows[ahead]}):
            if behind not in before:
                before[behind] = ahead
                left.append(behind)
        at += 1
    told = []
    while standing is not None:
        told.append(standing)
        standing = before[standing]
    return list(reversed(list(told)))


def unsafe_row(old, rights, n):
    """Readings that lead to an unsafe standing, and n readings that stay at such ones; None if there are none."""
    _check_rights(old, rights)
    if not is_whole(n, 0, None):
        raise BadNumber("n")
    waiting = Waiting(old, rights)
    longest = waiting.longest()
    if longest is not None and n >= longest:
        return None
    first = waiting.rows.highest(list(range(len(waiting.standings))))
    row = [waiting.standings[place] for place in waiting.rows.row_from(first, n + 1)]
    return _readings_through(old, _way_to(old, row[0])), _readings_through(old, row)


class Changed(Book):
    """A machine that is changed into another one at the first moment that the turn tells."""

    def __init__(self, old, new, turn, *, since=0):
        check_shapes(old, new)
        if not is_listed(turn) or len(turn) != len(old.rows):
            raise BadNumber("turn")
        if not all([is_whole(t, -1, len(new.rows) - 1) for t in turn]):
            raise BadNumber("turn")
        if not is_whole(since, 0, 60):
            raise BadNumber("since")
        self.old = old
        self.later = new
        self.turn = tuple(turn)
        self.since = since
        self.inputs = old.inputs
        self.outputs = old.outputs

    def start(self):
        """Old at its start, or new, if it is changed there."""
        return self.turned(0, self.since)

    def turned(self, s, left):
        """The standing when old stands at s and so many answers are still to come."""
        if left == 0 and self.turn[s] >= 0:
            return (1, self.turn[s], 0)
        return (0, s, left)

    def step(self, standing, reading):
        """The answer and the next standing."""
        row = self.checked(reading)
        if standing[0] == 1:
            answer, behind = self.later(standing[1], row)
            return answer, (1, behind, 0)
        answer, behind = self.old(standing[1], row)
        return answer, self.turned(behind, max(standing[2] - 1, 0))
