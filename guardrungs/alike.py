"""Books that answer alike, and shortest rows of readings that tell unlike ones apart."""

from guardrungs.errors import OtherShape
from guardrungs.least import rows_alike, splits, telling_row
from guardrungs.machines import book_rows, check_inputs


def _both_rows(book, other):
    """The rows of the two books' machines."""
    check_inputs(book, other)
    if len(book.inputs) != len(other.inputs) or len(book.outputs) != len(other.outputs):
        raise OtherShape()
    return book_rows(book), book_rows(other)


def alike(book, other):
    """True exactly if the two books are alike."""
    rows, others = _both_rows(book, other)
    return rows_alike(rows, others)


def unlike_row(book, other):
    """The first of the shortest rows of readings whose last answers differ; None if the books are alike."""
    rows, others = _both_rows(book, other)
    if rows_alike(rows, others):
        return None
    many = len(rows)
    both = rows + [[(answer, many + behind) for answer, behind in row] for row in others]
    return telling_row(both, splits(both), 0, many, len(book.inputs))


def pairs_met(book, other):
    """The number of pairs of standings that one row of readings leads to; None if the books are not alike."""
    rows, others = _both_rows(book, other)
    if not rows_alike(rows, others):
        return None
    behinds = [[behind for _, behind in row] for row in rows]
    others_behind = [[behind for _, behind in row] for row in others]
    # Readings that lead everywhere to the same standings count as one.
    columns = {pair: True for pair in zip(list(zip(*behinds)), list(zip(*others_behind)))}
    met = {(0, 0): True}
    left = [(0, 0)]
    while left:
        s, t = left.pop()
        for column, other_column in columns:
            pair = (column[s], other_column[t])
            if pair not in met:
                met[pair] = True
                left.append(pair)
    return len(met)
