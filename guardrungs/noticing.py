"""How soon false readings are noticed."""

from guardrungs.bits import is_whole
from guardrungs.errors import BadNumber, OtherShape, TooMany
from guardrungs.longest import Longest
from guardrungs.loops import fits_plain


class Doubles:
    """The double places around a book, or, without a book (None), those of any rows, as met.

    A double place is (reading, p, q, standing); without a book reading and standing are (). What leads on from it is
    told by joints, which many double places share: the place, in what the arena made, of the moves from p; a reading
    and a sound standing that q moves to with it; and the book's next standing.
    """

    def __init__(self, arena, book):
        self.arena = arena
        self.book = book
        self.soundness = [arena.sound(p) for p in range(len(arena.standings))]
        self.told_moves = {}
        self.told_joints = {}
        start = ((), 0, 0, ()) if book is None else (arena.first, 0, 0, book.start())
        self.places = [start]
        self.numbers = {start: 0}
        self.before = [None]
        self.answered = []
        self.joints = []
        self.behinds = {}
        while len(self.joints) < len(self.places):
            self.joints.append(self.joints_of(self.places[len(self.joints)]))

    def joints_of(self, place):
        """The joints of this double place; the double places behind them are met."""
        reading, p, q, standing = place
        made = self.arena.made
        if self.book is None:
            both = [pair + ((),) for pair in zip(made.moved[p], made.moved[q])]
        else:
            answer, behind = self.book.step(standing, reading)
            self.answered.append(answer)
            row = self.arena.checked_row(answer)
            both = [(self.arena.place_at(p, row), self.arena.place_at(q, row), behind)]
        told = {joint: True for key in both for joint in self.joints_by(key)}
        number = len(self.joints)
        for joint in list(told):
            if joint not in self.behinds:
                self.behinds[joint] = self.met_behind(number, joint)
        return list(told)

    def joints_by(self, key):
        """The joints for the places of the moves from p and from q and the book's next standing."""
        if key not in self.told_joints:
            first, second, behind = key
            readings = self.standings_by_reading(first)
            moves = self.arena.made.lots[second]
            self.told_joints[key] = [(first, reading, q, behind) for reading, q in moves
                                     if self.soundness[q] and reading in readings]
        return self.told_joints[key]

    def standings_by_reading(self, place):
        """From readings to the standings that the moves at this place lead to."""
        if place not in self.told_moves:
            told = {}
            for reading, p in list(self.arena.made.lots[place]):
                told.setdefault(reading, []).append(p)
            self.told_moves[place] = told
        return self.told_moves[place]

    def met_behind(self, number, joint):
        """The numbers of the double places behind the joint."""
        place, reading, q, behind = joint
        shown = () if self.book is None else reading
        standings = list(self.standings_by_reading(place)[reading])
        return [self.number_at((shown, p, q, behind), number) for p in standings]

    def number_at(self, place, number):
        """The number of this double place; a new one comes behind the one with the number."""
        if place not in self.numbers:
            self.numbers[place] = len(self.places)
            self.places.append(place)
            self.before.append(number)
            if len(self.places) > 20000:
                raise TooMany(20000)
        return self.numbers[place]

    def way_to(self, number):
        """The numbers of the double places on the way to this one."""
        told = []
        while number is not None:
            told.append(number)
            number = self.before[number]
        return list(reversed(list(told)))

    def runs(self, numbers):
        """The two runs through these double places, from the first one on."""
        run = []
        other = []
        for ahead, number in zip(numbers, numbers[1:]):
            reading, p, q, _ = self.places[number]
            run.append((self.answered[ahead], reading, p))
            other.append((self.answered[ahead], reading, q))
        return tuple(run), tuple(other)


class Hidden:
    """The pairs among double places, and the rows of them."""

    def __init__(self, doubles):
        self.met_doubles = doubles
        soundness = doubles.soundness
        self.pairs = [number for number, place in enumerate(doubles.places) if not soundness[place[1]]]
        places = {number: place for place, number in enumerate(self.pairs)}
        self.many = len(self.pairs)
        hubs = {}
        follows = []
        for number in list(self.pairs):
            told = []
            for joint in list(doubles.joints[number]):
                if joint not in hubs:
                    hubs[joint] = self.many + len(hubs)
                told.append(hubs[joint])
            follows.append(told)
        for joint in list(hubs):
            follows.append([places[behind] for behind in doubles.behinds[joint]])
        self.rows = Longest(follows, [place < self.many for place in range(len(follows))])

    def least(self):
        """The number of pairs in the longest row; None if there are ever longer ones."""
        return self.rows.longest(list(range(self.many)))

    def numbers_of(self, row):
        """The double places on the way to the first one of a row of pairs, and then the row."""
        told = [self.pairs[place] for place in row]
        return self.met_doubles.way_to(told[0]) + told[1:]


def _hidden(arena, book):
    return Hidden(Doubles(arena, book))


def _check_plain(arena, book):
    if not fits_plain(arena, book):
        raise OtherShape()


def noticed_within(arena, book):
    """The least n within which the book notices; None if there is none."""
    _check_plain(arena, book)
    return _hidden(arena, book).least()


def hidden_runs(arena, book, n):
    """Two runs that show that the book does not notice within n; None if it does."""
    _check_plain(arena, book)
    if not is_whole(n, 0, None):
        raise BadNumber("n")
    hidden = _hidden(arena, book)
    least = hidden.least()
    if least is not None and n >= least:
        return None
    first = hidden.rows.highest(list(range(hidden.many)))
    return hidden.met_doubles.runs(hidden.numbers_of(hidden.rows.row_from(first, n + 1)))


def hidden_ring(arena, book):
    """Two runs that can go round for ever unnoticed, and the length of the ring; None if the book notices."""
    _check_plain(arena, book)
    hidden = _hidden(arena, book)
    if hidden.least() is not None:
        return None
    row = hidden.rows.ring_from(hidden.rows.highest(list(range(hidden.many))))
    run, other = hidden.met_doubles.runs(hidden.numbers_of(row))
    return run, other, len(row) - 1 - row.index(row[-1])


def noticed_free(arena):
    """The least n, whatever is written; None if there is none."""
    return _hidden(arena, None).least()


def first_false(arena, run):
    """The number of the reading at which the first fault of the run begins; None if the run is sound."""
    for place, step in enumerate(run):
        if not arena.sound(step[-1]):
            return place + 1
    return None
