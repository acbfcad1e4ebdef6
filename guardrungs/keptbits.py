"""What must be kept of a standing so that a running book may be changed."""

from guardrungs.bits import is_listed, is_whole
from guardrungs.errors import BadNumber, NoMap, OtherShape, TooMany
from guardrungs.machines import check_inputs
from guardrungs.plants import is_rising


def standing_codes(book):
    """The book's standings that are reached, in the numbering of its machine."""
    check_inputs(book)
    numbers = {book.start(): 0}
    standings = [book.start()]
    at = 0
    while at < len(standings):
        standing = standings[at]
        for _, behind, _ in list(book.step_groups(standing)):
            if behind not in numbers:
                numbers[behind] = len(standings)
                standings.append(behind)
        if len(standings) > 2000:
            raise TooMany(2000)
        at += 1
    return tuple([tuple(standing) for standing in standings])


def _check_lengths(codes, rights):
    if len(codes) != len(rights):
        raise OtherShape()


def _check_columns(codes, columns):
    if not is_listed(columns) or not is_rising(columns, 0, len(codes[0]) - 1):
        raise BadNumber("columns")


def _looked_at(rights):
    return [s for s, right in enumerate(rights) if right is not None]


def _kept_parts(codes, rights, columns):
    """From kept parts to the standings looked at that have them."""
    told = {}
    for s in list(_looked_at(rights)):
        told.setdefault(tuple([codes[s][column] for column in columns]), []).append(s)
    return told


def _in_common(rights, standings):
    """The right ones that all of these standings have, as they stand for the first one."""
    return [t for t in rights[standings[0]] if all([t in rights[s] for s in standings[1:]])]


def _is_kept(codes, rights, columns):
    """True if there is a map by these columns."""
    parts = _kept_parts(codes, rights, columns)
    return all([len(_in_common(rights, standings)) > 0 for standings in parts.values()])


def map_by(codes, rights, columns):
    """The map by these columns with the least standing for each kept part."""
    _check_lengths(codes, rights)
    _check_columns(codes, columns)
    parts = _kept_parts(codes, rights, columns)
    told = []
    for kept in sorted(list(parts)):
        common = _in_common(rights, parts[kept])
        if not common:
            raise NoMap()
        told.append((kept, min(common)))
    return tuple(told)


def _is_pair(pair, many):
    """True for a tuple of a tuple of so many integers and an integer."""
    if not isinstance(pair, tuple) or len(pair) != 2 or not is_whole(pair[1], 0, None):
        return False
    kept = pair[0]
    return isinstance(kept, tuple) and len(kept) == many and all([is_whole(part, part, None) for part in kept])


def is_map(codes, rights, columns, pairs):
    """True if the pairs are a map by these columns."""
    _check_lengths(codes, rights)
    _check_columns(codes, columns)
    if not is_listed(pairs) or not all([_is_pair(pair, len(columns)) for pair in pairs]):
        return False
    parts = _kept_parts(codes, rights, columns)
    if [kept for kept, _ in pairs] != sorted(list(parts)):
        return False
    return all([t in rights[s] for kept, t in pairs for s in parts[kept]])


def least_kept(codes, rights):
    """The least lots of columns, ascending."""
    _check_lengths(codes, rights)
    looked = _looked_at(rights)
    told_codes = [codes[s] for s in looked]
    columns = list(zip(*told_codes))
    differ = [column for column, told in enumerate(columns) if any([part != told[0] for part in told])]
    if len(differ) > 8:
        raise TooMany(8)
    # Smaller lots first; what holds a lot that does is not least.
    lots = [()]
    for column in differ:
        lots = lots + [lot + (column,) for lot in lots]
    found = []
    for _, lot in sorted([(len(lot), lot) for lot in lots]):
        holds = any([all([column in lot for column in other]) for other in found])
        if not holds and _is_kept(codes, rights, lot):
            found.append(lot)
    return tuple(sorted(found))


def torn_kept(codes, rights, columns):
    """As few standings of one kept part as have nothing right in common; None if there is a map."""
    _check_lengths(codes, rights)
    _check_columns(codes, columns)
    for standings in _kept_parts(codes, rights, columns).values():
        if not _in_common(rights, standings):
            return tuple(_fewest(rights, standings))
    return None


def _fewest(rights, standings):
    """Some of these standings that have nothing right in common, while without any one of them the others have."""
    left = list(standings)
    for s in standings:
        less = [other for other in left if other != s]
        if less and not _in_common(rights, less):
            left = less
    return left
