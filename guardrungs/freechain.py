"""The free chain: marks that can come, lots that fire, doubled steps, stuck marks."""

from guardrungs.bits import is_listed, is_whole, mask_of, places_in
from guardrungs.errors import BadLot, TooMany

# Marks and lots of transitions are numbers here, the sums of 2 ** k over the places of their steps or transitions.


class Walk:
    """The marks that can come, and the lots that lead to them."""

    def __init__(self, chain):
        self.steps = chain.steps
        places = {step: place for place, step in enumerate(chain.steps)}
        self.froms = [mask_of([places[step] for step in froms]) for froms, _, _ in chain.transitions]
        self.tos = [mask_of([places[step] for step in tos]) for _, _, tos in chain.transitions]
        self.met = [mask_of([places[step] for step in chain.marked])]
        # For all marks that are met the marks ahead and the lot that leads here; None for the start.
        self.came = {self.met[0]: None}

    def walk(self):
        """Meet all marks that can come."""
        if len(self.froms) > 10:
            raise TooMany(10)
        at = 0
        while at < len(self.met):
            marks = self.met[at]
            for lot in list(self.lots_at(marks)):
                behind = self.behind(marks, lot)
                if behind not in self.came:
                    self.came[behind] = (marks, lot)
                    self.met.append(behind)
            if len(self.met) > 200:
                raise TooMany(200)
            at += 1

    def enabled(self, marks):
        """The places of the transitions whose from steps are all marked."""
        return [place for place, lot in enumerate(self.froms) if lot & marks == lot]

    def lots_at(self, marks):
        """The lots that can fire at these marks, ascending."""
        taken = {0: 0}
        for place in self.enabled(marks):
            froms = self.froms[place]
            more = {lot | (1 << place): steps | froms for lot, steps in taken.items() if steps & froms == 0}
            taken.update(more)
        return sorted(taken)

    def taken_by(self, lot):
        """The steps that the lot takes."""
        steps = 0
        for place in places_in(lot):
            steps = steps | self.froms[place]
        return steps

    def behind(self, marks, lot):
        """The marks behind the firing of the lot."""
        steps = marks & ~self.taken_by(lot)
        for place in places_in(lot):
            steps = steps | self.tos[place]
        return steps

    def doubles(self, marks, lot):
        """True if the firing of the lot doubles a step."""
        steps = marks & ~self.taken_by(lot)
        for place in places_in(lot):
            if steps & self.tos[place] != 0:
                return True
            steps = steps | self.tos[place]
        return False

    def lots_to(self, marks):
        """The lots that lead from the start to these marks, in as few cycles as can be."""
        lots = []
        while self.came[marks] is not None:
            marks, lot = self.came[marks]
            lots.append(tuple(places_in(lot)))
        return lots[::-1]

    def steps_of(self, marks):
        """The marks as a tuple of steps."""
        return tuple([self.steps[place] for place in places_in(marks)])


def walked(chain):
    """The walk through all marks that can come; its limits are those of this module."""
    walk = Walk(chain)
    walk.walk()
    return walk


def _check_places(lot, places):
    """Raise BadLot unless the lot is of keys of places, ascending by what places tells of them."""
    if not is_listed(lot):
        raise BadLot(-1)
    last = -1
    for at, part in enumerate(lot):
        if not isinstance(part, str) or places.get(part, -1) <= last:
            raise BadLot(at)
        last = places[part]


def _check_lot(lot, many):
    """Raise BadLot unless the lot is of numbers below many, ascending."""
    if not is_listed(lot):
        raise BadLot(-1)
    last = -1
    for at, place in enumerate(lot):
        if not is_whole(place, last + 1, many - 1):
            raise BadLot(at)
        last = place


def can_fire(chain, marks, lot):
    """True if the lot can be the one that fires at these marks in the free chain."""
    places = {step: place for place, step in enumerate(chain.steps)}
    _check_places(marks, places)
    _check_lot(lot, len(chain.transitions))
    left = {step: True for step in marks}
    for place in lot:
        for step in chain.transitions[place][0]:
            if step not in left:
                return False
            del left[step]
    return True


def marks_reached(chain):
    """All marks that can come, the start's first."""
    walk = walked(chain)
    return tuple([walk.steps_of(marks) for marks in walk.met])


def doubled_by(chain):
    """Lots that are fired from the start, the last of which doubles a step; None if there are none."""
    walk = walked(chain)
    for marks in walk.met:
        for lot in walk.lots_at(marks):
            if walk.doubles(marks, lot):
                return tuple(walk.lots_to(marks) + [tuple(places_in(lot))])
    return None


def stuck_by(chain):
    """Lots that are fired from the start, behind which the chain is stuck; None if there are none."""
    walk = walked(chain)
    for marks in walk.met:
        if not walk.enabled(marks):
            return tuple(walk.lots_to(marks))
    return None
