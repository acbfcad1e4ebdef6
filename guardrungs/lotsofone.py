"""Lots of steps just one of which is marked."""

from guardrungs.bits import is_listed, is_whole
from guardrungs.errors import BadLot, BadNumber, TooMany
from guardrungs.freechain import walked


def wrong_place(chain, lot):
    """The first place at which no step stands or one that has been there, -1 for no list; None for a lot of steps."""
    if not is_listed(lot):
        return -1
    met = {step: False for step in chain.steps}
    for place, step in enumerate(lot):
        if not isinstance(step, str) or met.get(step, True):
            return place
        met[step] = True
    return None


def _check_lot(chain, lot):
    place = wrong_place(chain, lot)
    if place is not None:
        raise BadLot(place)


def _check_place(chain, place):
    if not is_whole(place, 0, len(chain.transitions) - 1):
        raise BadNumber("place")


def many_in(steps, lot):
    return len([step for step in steps if step in lot])


def _is_even(transition, lot):
    return many_in(transition[0], lot) == many_in(transition[2], lot)


def _fires_ever(walk, place):
    return any([walk.froms[place] & marks == walk.froms[place] for marks in walk.met])


def is_lot_of_one(chain, lot):
    """True if just one step of the lot is ever marked, and none of them is doubled."""
    _check_lot(chain, lot)
    walk = walked(chain)
    if many_in(chain.marked, lot) != 1:
        return False
    uneven = [place for place, transition in enumerate(chain.transitions) if not _is_even(transition, lot)]
    return not any([_fires_ever(walk, place) for place in uneven])


def even_at(chain, lot, place):
    """True if the transition has as many from steps as to steps in the lot."""
    _check_lot(chain, lot)
    _check_place(chain, place)
    return _is_even(chain.transitions[place], lot)


def fires_ever(chain, place):
    """True if the transition at this place can ever fire."""
    _check_place(chain, place)
    return _fires_ever(walked(chain), place)


def _fits(chain, lot):
    if many_in(chain.marked, lot) != 1:
        return False
    return all([many_in(part[0], lot) < 2 and _is_even(part, lot) for part in chain.transitions])


def covering(chain):
    """As few lots as can cover the chain; None if no lots do."""
    many = len(chain.steps)
    if many > 8:
        raise TooMany(8)
    lots = []
    for number in range(1, 1 << many):
        lot = tuple([step for place, step in enumerate(chain.steps) if (number >> place) & 1 == 1])
        if _fits(chain, lot):
            lots.append((number, lot))
    told = {0: ()}
    left = [0]
    at = 0
    whole = (1 << many) - 1
    while at < len(left) and whole not in told:
        for number, lot in lots:
            if left[at] | number not in told:
                told[left[at] | number] = told[left[at]] + (lot,)
                left.append(left[at] | number)
        at += 1
    return told.get(whole, None)


def is_covering(chain, lots):
    """True if each of these lots fits and together they cover the chain."""
    if not is_listed(lots):
        raise BadLot(-1)
    for place, lot in enumerate(lots):
        if wrong_place(chain, lot) is not None:
            raise BadLot(place)
    covered = {step: True for lot in lots for step in lot}
    return len(covered) == len(chain.steps) and all([_fits(chain, lot) for lot in lots])
