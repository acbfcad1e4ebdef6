"""Books that are alike around an arena, and parts that are needless there."""

from guardrungs.errors import OtherShape
from guardrungs.known import steps_to
from guardrungs.loops import Around, fits_asked, fits_plain
from guardrungs.needless import needless_by, trimmed_by, whole_order


def _is_asked(arena, *books):
    """True if all books fit asked, False if all fit plain."""
    if all([fits_plain(arena, book) for book in books]):
        return False
    if not all([fits_asked(arena, book) for book in books]):
        raise OtherShape()
    return True


class TwoAround:
    """Two books around one arena, as long as they answer alike."""

    def __init__(self, arena, book, other, is_asked):
        self.arena = arena
        self.first = Around(arena, book, is_asked)
        self.second = Around(arena, other, is_asked)
        start = (arena.first, 0, book.start(), other.start())
        self.places = [start]
        self.before = {start: None}

    def unlike(self):
        """A shortest run behind which the answers differ; None if there is none."""
        at = 0
        while at < len(self.places):
            place = self.places[at]
            steps = self.first.told_steps(place[0], place[2])
            others = self.second.told_steps(place[0], place[3])
            if [told for told, _ in steps] != [told for told, _ in others]:
                return steps_to(self.before, place)
            self.go_on(place, steps, others)
            at += 1
        return None

    def go_on(self, place, steps, others):
        """Meet the places behind this one."""
        nodes = {}
        for (told, behind), (_, other) in zip(steps, others):
            moves = self.arena.place_at(place[1], self.arena.checked_row(told[-1]))
            nodes.setdefault((moves, behind, other), told)
        for node, told in list(nodes.items()):
            for reading, q in list(self.arena.made.lots[node[0]]):
                following = (reading, q, node[1], node[2])
                if following not in self.before:
                    self.before[following] = (place, told + (reading, q))
                    self.places.append(following)


def unlike_around(arena, book, other):
    """A shortest run of both books behind which they answer unlike; None if they are alike around the arena."""
    return TwoAround(arena, book, other, _is_asked(arena, book, other)).unlike()


class ComparingAround:
    """Tells whether books are alike a first one around an arena."""

    def __init__(self, arena, book):
        self.arena = arena
        self.book = book
        self.is_asked = _is_asked(arena, book)

    def alike(self, book):
        """True if this book is alike the first one around the arena."""
        return TwoAround(self.arena, self.book, book, self.is_asked).unlike() is None


def needless_around(arena, book):
    """The numbers of the parts without which the book is alike around the arena, each one alone."""
    return needless_by(book, ComparingAround(arena, book))


def trimmed_around(arena, book, order=()):
    """The book trimmed in this order around the arena."""
    comparing = ComparingAround(arena, book)
    return trimmed_by(book, whole_order(book, order), comparing)
