"""Wishes: places that must never come, and ends that must stay in reach."""

from guardrungs.bits import is_listed, is_whole
from guardrungs.errors import BadWish


def is_pattern(pattern):
    """True for a tuple of pairs of machine and standing, machines ascending, none twice."""
    if not isinstance(pattern, tuple):
        return False
    last = -1
    for pair in pattern:
        if not isinstance(pair, tuple) or len(pair) != 2 or not is_whole(pair[1], 0, None):
            return False
        if not is_whole(pair[0], last + 1, None):
            return False
        last = pair[0]
    return True


def are_patterns(patterns):
    """True for a list or tuple of patterns."""
    return is_listed(patterns) and all([is_pattern(pattern) for pattern in patterns])


def fits(patterns, standing):
    """True if the plant standing is in this lot of places."""
    for pattern in patterns:
        if all([machine < len(standing) and standing[machine] == wanted for machine, wanted in pattern]):
            return True
    return False


class Wish:
    """What must never come, and the ends that must stay in reach."""

    def __init__(self, never, ends):
        if not is_listed(never):
            raise BadWish("never", -1)
        for place, pattern in enumerate(never):
            if not is_pattern(pattern):
                raise BadWish("never", place)
        if not is_listed(ends):
            raise BadWish("end", -1)
        for place, end in enumerate(ends):
            if not are_patterns(end):
                raise BadWish("end", place)
        self.never = tuple(never)
        self.ends = tuple([tuple(end) for end in ends])


def joined_wish(wish, other):
    """Both wishes together."""
    return Wish(wish.never + other.never, wish.ends + other.ends)


def _moved_lot(patterns, many):
    return [tuple([(machine + many, standing) for machine, standing in pattern]) for pattern in patterns]


def moved(wish, many):
    """The wish with all machines' numbers greater by many."""
    return Wish(_moved_lot(wish.never, many), [_moved_lot(end, many) for end in wish.ends])
