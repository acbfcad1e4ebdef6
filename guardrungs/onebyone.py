"""What can be kept one by one: the rest of a plant and a wish, and the freest chart."""

from guardrungs.bits import all_rows
from guardrungs.errors import NoGuard, OtherShape, TooMany
from guardrungs.freeplants import driven_by_ones
from guardrungs.wishes import fits


class Rest:
    """All plant standings, those of them that are left, and what the outputs may be at each.

    Each driver's bit is 1, so an output may be 1 unless a change that it drives leads out of what is left.
    """

    def __init__(self, plant, wish):
        if not driven_by_ones(plant):
            raise OtherShape()
        many = 1
        for size, _ in plant.machines:
            many = many * size
        if many > 600:
            raise TooMany(600)
        self.plant = plant
        self.wish = wish
        self.drivers = {change: output for change, output, _ in plant.drivers}
        self.ways = {}
        for standing in list(_all_standings(plant)):
            pairs = [(change, plant.led(standing, change)) for change in plant.changes]
            self.ways[standing] = [(change, behind) for change, behind in pairs if behind is not None]
        self.left = {standing: True for standing in self.ways if not fits(wish.never, standing)}
        lost = self.failing()
        while lost:
            self.left = {standing: True for standing in self.left if standing not in lost}
            lost = self.failing()

    def leading_out(self, standing):
        """The changes that lead from here out of what is left."""
        return [change for change, behind in self.ways[standing] if behind not in self.left]

    def shut_outputs(self, standing):
        """The outputs, as keys, that drive a change that leads out; None if a free one does."""
        changes = self.leading_out(standing)
        if any([change not in self.drivers for change in changes]):
            return None
        return {self.drivers[change]: True for change in changes}

    def kept_ways(self, standing):
        """The changes, with the standings behind them, that are possible under some row that is let here."""
        shut = self.shut_outputs(standing)
        ways = self.ways[standing]
        return [(change, behind) for change, behind in ways if self.drivers.get(change, -1) not in shut]

    def failing(self):
        """The standings left, as keys, that have no row that is let or from which an end cannot be reached."""
        told = {standing: True for standing in self.left if self.shut_outputs(standing) is None}
        ahead = {}
        for standing in list(self.left):
            if standing not in told:
                for _, behind in list(self.kept_ways(standing)):
                    ahead.setdefault(behind, []).append(standing)
        for end in self.wish.ends:
            reach = self.leading_to(end, ahead)
            told.update({standing: True for standing in self.left if standing not in reach})
        return told

    def leading_to(self, end, ahead):
        """The standings left, as keys, from which changes lead to the end."""
        told = {standing: True for standing in self.left if fits(end, standing)}
        fresh = list(told)
        while fresh:
            new = list({standing: True for standing in ahead.get(fresh.pop(), []) if standing not in told})
            told.update({standing: True for standing in new})
            fresh.extend(new)
        return told

    def top(self, standing):
        """The row that has a 1 wherever a row has that is let here."""
        shut = self.shut_outputs(standing)
        return tuple([0 if output in shut else 1 for output in range(self.plant.outputs)])


def _all_standings(plant):
    """All plant standings, reached or not, ascending."""
    told = [()]
    for size, _ in plant.machines:
        told = [standing + (place,) for standing in told for place in range(size)]
    return told


def freest_chart(plant, wish):
    """The freest chart."""
    rest = Rest(plant, wish)
    if plant.origin not in rest.left:
        raise NoGuard()
    numbers = {plant.origin: 0}
    standings = [plant.origin]
    arrows = []
    while len(arrows) < len(standings):
        standing = standings[len(arrows)]
        behinds = {change: behind for change, behind in rest.kept_ways(standing)}
        ways = []
        for change in list(plant.changes):
            behind = behinds.get(change, standing)
            if behind not in numbers:
                numbers[behind] = len(standings)
                standings.append(behind)
            ways.append(numbers[behind])
        arrows.append(tuple(ways))
    return tuple([rest.top(standing) for standing in standings]), tuple(arrows)


def rest_of(plant, wish):
    """The plant standings of the rest, ascending."""
    return tuple(sorted(list(Rest(plant, wish).left)))


def let_rows(plant, wish, standing):
    """The rows that are let at the standing, in counting order; () if it is not in the rest."""
    rest = Rest(plant, wish)
    told = tuple(standing)
    if told not in rest.left:
        return ()
    shut = rest.shut_outputs(told)
    return tuple([row for row in all_rows(plant.outputs) if not any([row[output] == 1 for output in shut])])
