"""How plants move in one cycle: layers of changes, falling rows, and what these lead to."""

from guardrungs.bits import all_rows, check_row, is_whole, mask_of, places_in
from guardrungs.errors import BadFalling, BadNumber
from guardrungs.wishes import fits


class Ground:
    """The plant standings that changes lead to from one, numbered as met, and what leads from each to others.

    A lot of pairs of marks and standing is told by integers. The marks of a pair are a number, the first mark input
    its highest bit; a lot of marks is the integer that has ones at the places of their numbers.
    """

    def __init__(self, plant, origin):
        self.plant = plant
        self.marked = [place for place, told in enumerate(plant.inputs) if told[0] == "mark"]
        self.width = 1 << len(self.marked)
        self.numbers = {tuple(origin): 0}
        self.standings = [tuple(origin)]
        self.told_arrows = []
        self.lows = [self._low(place) for place in range(len(self.marked))]
        self.marks = {change: self._marks_of(change) for change in plant.changes}

    def _low(self, place):
        """The lot of all marks whose number has a 0 at this place."""
        return mask_of([number for number in range(self.width) if (number >> place) & 1 == 0])

    def _marks_of(self, change):
        """The places, in the numbers of marks, that the change sets."""
        told = [change in self.plant.inputs[place][1] for place in self.marked]
        return [place for place, is_set in enumerate(reversed(list(told))) if is_set]

    def arrows_of(self, number):
        """Pairs of a change and the number of the standing behind it, whatever lets the change come."""
        while len(self.told_arrows) <= number:
            standing = self.standings[len(self.told_arrows)]
            told = []
            for change in list(self.plant.changes):
                behind = self.plant.led(standing, change)
                if behind is not None:
                    if behind not in self.numbers:
                        self.numbers[behind] = len(self.standings)
                        self.standings.append(behind)
                    told.append((change, self.numbers[behind]))
            self.told_arrows.append(told)
        return self.told_arrows[number]

    def met_within(self, most):
        """True if there are no more than so many standings; all of them are met then. None is no bound."""
        number = 0
        while number < len(self.standings):
            if most is not None and len(self.standings) > most:
                return False
            self.arrows_of(number)
            number += 1
        return True

    def named_ways(self, number, row):
        """For each change that is possible at this standing under the row: it, its marks, the standing behind it."""
        arrows = self.arrows_of(number)
        return [(change, self.marks[change], behind) for change, behind in arrows if self.plant.lets(change, row)]

    def ways_from(self, number, row):
        """The same without the changes."""
        arrows = self.arrows_of(number)
        return [(self.marks[change], behind) for change, behind in arrows if self.plant.lets(change, row)]

    def marks_number(self, row):
        """The number that the marks in a row of a bit for each input have."""
        number = 0
        for place in self.marked:
            number = 2 * number + row[place]
        return number

    def marks_row(self, number):
        """The row of a bit for each input, 1 for the marks that this number tells."""
        row = [0] * len(self.plant.inputs)
        for at, place in enumerate(reversed(list(self.marked))):
            row[place] = (number >> at) & 1
        return tuple(row)


def lifted(lot, places, lows):
    """The lot of marks with the marks at these places set in each."""
    for place in places:
        low = lot & lows[place]
        lot = (lot ^ low) | (low << (1 << place))
    return lot


def following_layer(ground, row, layer):
    """The pairs that one change more leads to; a layer is a dict from standings' numbers to lots of marks."""
    told = {}
    for number, lot in layer.items():
        for places, behind in ground.ways_from(number, row):
            told[behind] = told.get(behind, 0) | lifted(lot, places, ground.lows)
    return told


def added(found, layer):
    """Add the layer to what is found; the pairs that are new are returned."""
    fresh = {}
    for number, lot in list(layer.items()):
        old = found.get(number, 0)
        if lot | old != old:
            fresh[number] = (lot | old) ^ old
            found[number] = lot | old
    return fresh


def layer_pairs(layer):
    """The pairs of the number of marks and the number of the standing."""
    told = []
    for number, lot in layer.items():
        told.extend([(marks, number) for marks in places_in(lot)])
    return told


def is_falling(least, most):
    """True if this is a falling."""
    return is_whole(least, 0, 24) and (most is None or is_whole(most, least, 24))


def check_falling(least, most):
    if not is_falling(least, most):
        raise BadFalling()


def _check_many(many):
    if not is_whole(many, 0, None):
        raise BadNumber("many")


def layers(plant, standing, row, many):
    """The layers from 0 to many, each a tuple of its pairs of marks and standing."""
    told = check_row(row, plant.outputs)
    _check_many(many)
    ground = Ground(plant, standing)
    layer = {0: 1}
    found = []
    for _ in range(many + 1):
        pairs = [(ground.marks_row(marks), ground.standings[number]) for marks, number in layer_pairs(layer)]
        found.append(tuple(sorted(pairs)))
        layer = following_layer(ground, told, layer)
    return tuple(found)


def fallen(ground, row, least, most, layer):
    """All pairs that falling rows lead to from those of the layer, as a layer; no bounds are looked at."""
    found = {}
    for _ in range(least):
        added(found, {number: lot for number, lot in layer.items() if not ground.ways_from(number, row)})
        following = following_layer(ground, row, layer)
        if following == layer:
            break
        layer = following
    fresh = added(found, layer)
    left = None if most is None else most - least
    while fresh and left != 0:
        fresh = added(found, following_layer(ground, row, fresh))
        left = None if left is None else left - 1
    return found


def falling_moves(plant, standing, row, least, most):
    """The moves, pairs of true reading and plant standing."""
    told = check_row(row, plant.outputs)
    check_falling(least, most)
    return moves_from(plant, standing, told, least, most)


def moves_from(plant, standing, row, least, most):
    """The moves; the row is right, and the numbers may be greater than those of a falling."""
    ground = Ground(plant, standing)
    moves = []
    for marks, number in layer_pairs(fallen(ground, row, least, most, {0: 1})):
        levels = plant.level_row(ground.standings[number])
        reading = tuple([bit | mark for bit, mark in zip(levels, ground.marks_row(marks))])
        moves.append((reading, ground.standings[number]))
    return tuple(sorted(moves))


def rows_of_changes(plant, standing, row, many):
    """All rows of at most many changes from the standing under the row, shorter ones first."""
    told = check_row(row, plant.outputs)
    _check_many(many)
    level = [((), tuple(standing))]
    yield ()
    length = 0
    while level and length < many:
        longer = []
        for changes, now in list(level):
            for change in list(plant.possible(now, told)):
                longer.append((changes + (change,), plant.led(now, change)))
                yield changes + (change,)
        level = longer
        length += 1


def depth(plant, standing, row):
    """The greatest number of a layer that has a pair which no layer ahead has."""
    told = check_row(row, plant.outputs)
    ground = Ground(plant, standing)
    found = {0: 1}
    fresh = {0: 1}
    many = -1
    while fresh:
        many += 1
        fresh = added(found, following_layer(ground, told, fresh))
    return many


def meets(plant, standing, row, least, most, never):
    """True if some falling row meets a place of never."""
    told = check_row(row, plant.outputs)
    check_falling(least, most)
    # Each row of at most most changes is the beginning of a falling row.
    ground = Ground(plant, standing)
    met = {}
    fresh = [0]
    left = most
    while fresh and left != 0:
        following = {behind: True for number in fresh for _, behind in ground.ways_from(number, told)}
        fresh = [number for number in following if number not in met]
        if any([fits(never, ground.standings[number]) for number in fresh]):
            return True
        met.update({number: True for number in fresh})
        left = None if left is None else left - 1
    return False


class Everywhere:
    """What changes lead to from all standings of a ground at once, under one row.

    The pairs from one standing are one integer: the pair of the marks numbered k and of standing number s is the bit
    at the place s * width + k.
    """

    def __init__(self, ground, row):
        ground.met_within(None)
        many = len(ground.standings)
        self.width = ground.width
        self.own = [1 << (number * ground.width) for number in range(many)]
        self.ways = [ground.ways_from(number, row) for number in range(many)]
        each = sum(self.own)
        self.lows = [low * each for low in ground.lows]
        self.lots = list(self.own)
        self.rounds = 0

    def _behind(self, number, lots):
        """The pairs behind one change and then what lots tell from there."""
        told = 0
        for places, behind in self.ways[number]:
            told = told | lifted(lots[behind], places, self.lows)
        return told

    def grow(self, most):
        """Let the lots hold what at most so many changes lead to; None is no bound."""
        ahead = [[] for _ in self.ways]
        for number, ways in list(enumerate(self.ways)):
            for _, behind in list(ways):
                ahead[behind].append(number)
        grown = list(range(len(self.ways)))
        while grown and self.rounds != most:
            old = list(self.lots)
            touched = sorted({number for behind in grown for number in ahead[behind]})
            grown = []
            for number in list(touched):
                self.lots[number] = self.own[number] | self._behind(number, old)
                if self.lots[number] != old[number]:
                    grown.append(number)
            if grown:
                self.rounds += 1

    def fall(self, least, most):
        """Let the lots hold what falling rows lead to."""
        self.grow(None if most is None else most - least)
        for _ in range(least):
            old = list(self.lots)
            for number, ways in list(enumerate(self.ways)):
                self.lots[number] = self._behind(number, old) if ways else self.own[number]

    def pairs_of(self, lot):
        """The pairs of the number of marks and the number of the standing in a lot."""
        return [(place % self.width, place // self.width) for place in places_in(lot)]


def open_changes(plant, row):
    """For each change whether its driver lets it come under the row."""
    return tuple([plant.lets(change, row) for change in plant.changes])


def depth_of(plant):
    """The greatest depth over all plant standings that can come, and all rows."""
    ground = Ground(plant, plant.origin)
    deepest = 0
    met = {}
    for row in all_rows(plant.outputs):
        if open_changes(plant, row) not in met:
            met[open_changes(plant, row)] = True
            everywhere = Everywhere(ground, row)
            everywhere.grow(None)
            deepest = max(deepest, everywhere.rounds)
    return deepest
