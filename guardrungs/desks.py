"""A desk: a book runs at an arena; cycles and changes are done, tried and taken back."""

from guardrungs.bits import check_row, is_whole
from guardrungs.errors import BadNumber, Gone, OtherShape
from guardrungs.handing import arena_told
from guardrungs.known import lot_behind
from guardrungs.loops import fits_asked, fits_plain


def fault_word(arena, lot):
    """What is said of faults at this lot."""
    sound = [p for p in lot if arena.sound(p)]
    if len(sound) == len(lot):
        return "sound"
    return "may be" if sound else "sure"


class Desk:
    """A game, a book, and what was done so far.

    steps_done has the steps of the cycles; known_done for each of them the lot known behind its reading, what is said
    of faults there, and whether its answer is bad where the arena stands; past has for each deed what the desk was.
    """

    def __init__(self, game, book):
        self.is_asked = not fits_plain(game.arena, book)
        if self.is_asked and not fits_asked(game.arena, book):
            raise OtherShape()
        self.game = game
        self.book = book
        self.standing = tuple(book.start())
        self.steps_done = ()
        self.known_done = ()
        self.past = ()

    def cycle(self, pick=0, *, ask=None):
        """The answer to the next reading."""
        if not is_whole(pick, 0, None):
            raise BadNumber("pick")
        told = self.told_ask(ask)
        reading, p = self.next_move(pick)
        lot = self.next_lot(reading)
        answer, standing = self.book.step(self.standing, reading if told is None else reading + told)
        self.keep()
        self.standing = tuple(standing)
        self.steps_done = self.steps_done + ((told, reading, tuple(answer), p),)
        self.known_done = self.known_done + ((lot, fault_word(self.game.arena, lot), self.game.bad(p, answer)),)
        return tuple(answer)

    def told_ask(self, ask):
        """The row that is asked; None at a plain desk."""
        if not self.is_asked:
            if ask is not None:
                raise Gone("ask")
            return None
        outputs = self.game.arena.plant.outputs
        return (0,) * outputs if ask is None else check_row(ask, outputs)

    def next_move(self, pick):
        """The next reading, and where the arena stands then."""
        arena = self.game.arena
        if not self.steps_done:
            return arena.first, 0
        _, _, answer, p = self.steps_done[-1]
        moves = arena.moves(p, answer)
        return moves[pick % len(moves)]

    def next_lot(self, reading):
        """The lot known behind this reading, if it comes next; () if it cannot come."""
        arena = self.game.arena
        if not self.steps_done:
            return (0,) if reading == arena.first else ()
        return lot_behind(arena, self.known_done[-1][0], self.steps_done[-1][2], reading)

    def keep(self):
        """Lay by what the desk is, ahead of a deed."""
        self.past = self.past + ((self.book, self.standing, self.steps_done, self.known_done),)

    def change(self, book, standing=None):
        """Let this book run from the next reading on."""
        arena = self.game.arena
        if not (fits_asked(arena, book) if self.is_asked else fits_plain(arena, book)):
            raise OtherShape()
        begin = book.start() if standing is None else standing
        self.keep()
        self.book = book
        self.standing = tuple(begin)

    def back(self, deeds=1):
        """Take back the last deeds, so many."""
        if not is_whole(deeds, 1, None):
            raise BadNumber("deeds")
        if deeds > len(self.past):
            raise Gone("back")
        at = len(self.past) - deeds
        self.book, self.standing, self.steps_done, self.known_done = self.past[at]
        self.past = self.past[:at]

    def tried(self, deeds):
        """The answers that these cycles would give."""
        other = self.branch()
        return tuple([other.cycle(pick, ask=ask) for pick, ask in list(deeds)])

    def branch(self):
        """Another desk that is what this one is."""
        other = Desk(self.game, self.book)
        other.is_asked = self.is_asked
        other.standing = self.standing
        other.steps_done = self.steps_done
        other.known_done = self.known_done
        other.past = self.past
        return other

    @property
    def history(self):
        """The steps, one a cycle."""
        return self.steps_done

    def __iter__(self):
        return iter(self.steps_done)

    @property
    def cycles(self):
        """The number of cycles that are not taken back."""
        return len(self.steps_done)

    @property
    def deeds(self):
        """The number of deeds that are not taken back."""
        return len(self.past)

    @property
    def lot(self):
        """The known lot."""
        return self.known_done[-1][0] if self.known_done else (0,)

    @property
    def is_sure(self):
        """True exactly if no standing of the lot is sound."""
        return len(self.known_done) > 0 and self.known_done[-1][1] == "sure"

    @property
    def is_sound(self):
        """True exactly if all standings of the lot are sound."""
        return len(self.known_done) == 0 or self.known_done[-1][1] == "sound"

    def may_be(self, p):
        """True exactly if the arena may stand at p."""
        return is_whole(p, 0, None) and p in self.lot

    @property
    def bad_now(self):
        """True exactly if the last answer is bad where the arena stands."""
        return len(self.known_done) > 0 and self.known_done[-1][2]

    def would_let(self, table, reading, ask):
        """True exactly if the reading can come next and the table lets the ask at the lot known then."""
        wish, other = self.game.wish, table.game.wish
        if arena_told(self.game.arena) != arena_told(table.game.arena):
            raise OtherShape()
        if (wish.never, wish.ends) != (other.never, other.ends):
            raise OtherShape()
        plant = self.game.arena.plant
        told = check_row(reading, len(plant.inputs))
        row = check_row(ask, plant.outputs)
        return row in table.told_rows.get(self.next_lot(told), ())


class Trial:
    """For one with block: behind it the desk is what it was ahead of it."""

    def __init__(self, desk):
        self.desk = desk
        self.book = desk.book
        self.standing = desk.standing
        self.steps_done = desk.steps_done
        self.known_done = desk.known_done
        self.past = desk.past

    def __enter__(self):
        desk = self.desk
        self.book = desk.book
        self.standing = desk.standing
        self.steps_done = desk.steps_done
        self.known_done = desk.known_done
        self.past = desk.past
        return desk

    def __exit__(self, kind, value, trace):
        desk = self.desk
        desk.book = self.book
        desk.standing = self.standing
        desk.steps_done = self.steps_done
        desk.known_done = self.known_done
        desk.past = self.past
