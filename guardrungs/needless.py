"""Parts of books that change no answer, and books without such parts."""

from guardrungs.bits import is_listed, is_whole
from guardrungs.chains import Chain
from guardrungs.errors import BadNumber
from guardrungs.least import rows_alike
from guardrungs.machines import book_rows, check_inputs
from guardrungs.rungs import Rungs
from guardrungs.sheets import Sheet


def _parts(book):
    """The parts of the book."""
    if isinstance(book, Rungs):
        return book.rungs
    return book.blocks if isinstance(book, Sheet) else book.actions


def _left_out(book, part):
    if isinstance(book, Rungs):
        return book.without(part)
    if isinstance(book, Sheet):
        wire = book.blocks[part][0]
        blocks = book.blocks[:part] + ((wire, "zero", (), 0),) + book.blocks[part + 1:]
        return Sheet(book.inputs, blocks, book.wiring)
    actions = book.actions[:part] + book.actions[part + 1:]
    return Chain(book.inputs, book.outputs, book.steps, book.marked, book.transitions, actions, cells=book.cells)


def left_out(book, part):
    """The book with this part left out."""
    if not is_whole(part, 0, len(_parts(book)) - 1):
        raise BadNumber("part")
    return _left_out(book, part)


class Comparing:
    """Tells by their machines whether books are alike a first one."""

    def __init__(self, book):
        self.rows = book_rows(book)

    def alike(self, book):
        """True if this book is alike the first one."""
        return rows_alike(self.rows, book_rows(book))


def compared_parts(book):
    """The numbers of the parts that may be called needless."""
    return [at for at, part in enumerate(_parts(book)) if not isinstance(book, Sheet) or part[1] != "zero"]


def needless_by(book, comparing):
    """The numbers of the parts without which the book is alike, as comparing tells."""
    return tuple([part for part in compared_parts(book) if comparing.alike(_left_out(book, part))])


def needless_parts(book):
    """The numbers of the parts that are needless, each one alone."""
    check_inputs(book)
    return needless_by(book, Comparing(book)) if compared_parts(book) else ()


def whole_order(book, order):
    """The parts of the order, and then all others."""
    many = len(_parts(book))
    if not is_listed(order) or not all([is_whole(part, 0, many - 1) for part in order]):
        raise BadNumber("order")
    told = {part: True for part in order}
    if len(told) < len(order):
        raise BadNumber("order")
    return list(order) + [part for part in range(many) if part not in told]


def trimmed_by(book, order, comparing):
    """The book trimmed in this order, which has all parts."""
    # Each book on the way is alike the first one, so each is compared with that.
    left = list(order)
    while left:
        may = {part: True for part in compared_parts(book)}
        # The places, in the book that is left, of the parts of the first book.
        places = {part: at for at, part in enumerate(sorted(left))}
        part = _first_needless(book, [(part, places[part]) for part in left if places[part] in may], comparing)
        if part is None:
            return book
        book = _left_out(book, places[part])
        if not isinstance(book, Sheet):
            left = [other for other in left if other != part]
    return book


def _first_needless(book, parts, comparing):
    """Of pairs of a part and its place in the book, the first part that is needless; None if none is."""
    for part, place in parts:
        if comparing.alike(_left_out(book, place)):
            return part
    return None


def trimmed(book, order=()):
    """The book trimmed in this order."""
    check_inputs(book)
    parts = whole_order(book, order)
    return trimmed_by(book, parts, Comparing(book)) if compared_parts(book) else book
