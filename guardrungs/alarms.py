"""The alarm beside a book: it tells that some reading was surely false."""

from guardrungs.bits import mask_of, places_in
from guardrungs.books import Book
from guardrungs.errors import OtherShape
from guardrungs.known import Spread, check_lot
from guardrungs.loops import fits_asked, fits_plain


def all_faulty(arena, lot):
    """True exactly if no standing in the lot is sound."""
    return not any([arena.sound(p) for p in check_lot(arena, lot)])


def all_sound(arena, lot):
    """True exactly if each standing in the lot is sound."""
    return all([arena.sound(p) for p in check_lot(arena, lot)])


class Watched(Book):
    """A book with its alarm. It keeps the book's standing, the row answered last and the known lot."""

    def __init__(self, arena, book):
        if not fits_plain(arena, book) and not fits_asked(arena, book):
            raise OtherShape()
        self.arena = arena
        self.book = book
        self.inputs = tuple(book.inputs)
        name = "z"
        while name in self.inputs or name in book.outputs:
            name = name + "z"
        self.outputs = tuple(book.outputs) + (name,)
        self.many = len(arena.plant.inputs)
        self.spread = Spread(arena)
        self.sound_mask = mask_of([p for p in range(len(arena.standings)) if arena.sound(p)])
        self.told_behind = {}

    def start(self):
        """The book's start, no row answered, and the lot at the start."""
        return self.whole(self.book.start(), -1, (0,))

    def whole(self, standing, row, lot):
        """The standing of the whole."""
        return (len(standing),) + tuple(standing) + (row,) + lot

    def lot_behind(self, lot, row, reading):
        """The lot behind the lot, the row with this number and the reading; the lot itself if nothing can come."""
        choice = self.arena.made.choices[row]
        if (lot, choice) not in self.told_behind:
            pairs = self.spread.behind(lot, choice)
            self.told_behind[(lot, choice)] = {told: tuple(places_in(mask)) for told, mask in pairs}
        return self.told_behind[(lot, choice)].get(reading, lot)

    def step(self, standing, reading):
        """The answer and the next standing."""
        read = self.checked(reading)
        many = standing[0]
        row, lot = standing[1 + many], tuple(standing[2 + many:])
        answer, behind = self.book.step(tuple(standing[1:1 + many]), read)
        if row >= 0:
            lot = self.lot_behind(lot, row, read[:self.many])
        elif read[:self.many] != self.arena.first:
            return tuple(answer) + (0,), self.whole(behind, -1, lot)
        alarm = 1 if mask_of(lot) & self.sound_mask == 0 else 0
        return tuple(answer) + (alarm,), self.whole(behind, self.arena.checked_row(answer), lot)

    def lot_known(self, standing):
        """The known lot in this standing."""
        return tuple(standing[2 + standing[0]:])
