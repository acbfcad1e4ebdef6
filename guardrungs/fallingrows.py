"""Shortest falling rows from one standing to others."""

from guardrungs.moves import added, following_layer


def _unlifted(lot, places, lows):
    """The lot of the marks that are in the lot once the marks at these places are set."""
    for place in places:
        high = lot ^ (lot & lows[place])
        lot = high | (high >> (1 << place))
    return lot


def _hits(ground, row, layer, goal, is_long):
    """What falling rows of this length have of the goal; short ones count where no change is possible."""
    told = {}
    for number, lot in goal.items():
        both = lot & layer.get(number, 0)
        if both != 0 and (is_long or not ground.ways_from(number, row)):
            told[number] = both
    return told


def _leading_on(ground, row, layer, behind):
    """Of a layer the pairs from which one change leads to what is kept of the next layer."""
    told = {}
    for number, lot in layer.items():
        kept = 0
        for places, following in ground.ways_from(number, row):
            kept = kept | _unlifted(behind.get(following, 0), places, ground.lows)
        if kept & lot != 0:
            told[number] = kept & lot
    return told


def _led_through(ground, row, start, kept):
    """The first row of changes from the start through what is kept of the layers."""
    number, marks = start, 0
    changes = []
    for layer in kept[1:]:
        for change, places, behind in ground.named_ways(number, row):
            now = marks
            for place in places:
                now = now | (1 << place)
            if (layer.get(behind, 0) >> now) & 1 == 1:
                number, marks = behind, now
                changes.append(change)
                break
    return tuple(changes)


def falling_row(ground, row, least, most, start, goal):
    """A shortest falling row from the start to a pair of the goal, the first by the first change that differs.

    The goal is told as layers are: from standings' numbers to lots of marks. None if no falling row leads there.
    """
    layers = [{start: 1}]
    found = {}
    while True:
        length = len(layers) - 1
        layer = layers[length]
        hits = _hits(ground, row, layer, goal, length >= least)
        if hits:
            break
        # Behind a layer that has nothing new no later one has.
        if length == most or (length >= least and not added(found, layer)):
            return None
        layers.append(following_layer(ground, row, layer))
    kept = [hits]
    for layer in reversed(list(layers[:-1])):
        kept.append(_leading_on(ground, row, layer, kept[-1]))
    return _led_through(ground, row, start, list(reversed(list(kept))))
