"""How many changes in a cycle a wish, a row or a chart bears."""

from guardrungs.arenas import Arena, Game
from guardrungs.bits import all_rows, check_row
from guardrungs.charts import OneByOne, check_chart
from guardrungs.errors import BadFalling, BadWish, OtherShape
from guardrungs.fallingrows import falling_row
from guardrungs.freeplants import doomed, driven_by_ones
from guardrungs.moves import Ground, check_falling, is_falling, open_changes
from guardrungs.tables import Table


def _check_most(most):
    if not is_falling(0, most):
        raise BadFalling()


def _stays(ground, row, most, lost):
    """True if no row of at most most changes under the row leads from the first standing to one of those lost."""
    met = {0: True}
    level = [0]
    left = most
    while level and left != 0:
        following = {behind: True for number in level for _, behind in ground.ways_from(number, row)}
        if any([number in lost for number in following]):
            return False
        level = [number for number in following if number not in met]
        met.update({number: True for number in level})
        left = None if left is None else left - 1
    return True


def rows_at(plant, wish, standing, most):
    """The rows that hold at the standing for (0, most), in counting order; () if it is not safe."""
    _check_most(most)
    if not driven_by_ones(plant) or wish.ends or most == 0:
        raise OtherShape()
    ground = Ground(plant, standing)
    ground.met_within(None)
    lost = doomed(ground, wish.never)
    if 0 in lost:
        return ()
    held = {}
    for row in all_rows(plant.outputs):
        choice = open_changes(plant, row)
        if choice not in held:
            held[choice] = _stays(ground, row, most, lost)
    return tuple([row for row in all_rows(plant.outputs) if held[open_changes(plant, row)]])


def guard_at(plant, wish, most):
    """True if there is a good guard at the falling (0, most)."""
    _check_most(most)
    return Table(Game(Arena(plant, 0, most), wish)).guards


def greatest_most(plant, wish):
    """The greatest most with a good guard, -1 without one; None if there is a good guard at (0, None)."""
    if wish.ends:
        raise BadWish("end", 0)
    if guard_at(plant, wish, None):
        return None
    for most in range(25):
        if not guard_at(plant, wish, most):
            return most - 1
    return 24


def row_for(plant, standing, row, least, most, reading, after):
    """A shortest falling row that leads to this true reading and plant standing, the first one; None without any."""
    told = check_row(row, plant.outputs)
    check_falling(least, most)
    wanted = check_row(reading, len(plant.inputs))
    ground = Ground(plant, standing)
    ground.met_within(None)
    number = ground.numbers.get(tuple(after), -1)
    if number < 0:
        return None
    levels = plant.level_row(ground.standings[number])
    marked = {place: True for place in ground.marked}
    if any([place not in marked and bit != wanted[place] for place, bit in enumerate(levels)]):
        return None
    return falling_row(ground, told, least, most, 0, {number: 1 << ground.marks_number(wanted)})


class Nearest:
    """Shortest rows of changes, under one row of outputs, from places of a chart to changes that it does not let."""

    def __init__(self, met, row):
        self.met = met
        self.row = row
        followed = met.followed
        rows = {number: followed.out[followed.pairs[number][1]] for number in met.places}
        firsts = [number for number in met.places if followed.row_kinds[rows[number]] == row]
        self.before = {number: None for number in firsts}

    def found(self, most):
        """A place and at most so many changes, only the last of which is not let; None if there are none."""
        followed = self.met.followed
        level = list(self.before)
        left = most
        while level and left != 0:
            following = []
            for number in list(level):
                last = followed.unlet(number, self.row)
                if last is not None:
                    return self.told(number, last)
                for change, _, behind in list(followed.named_ways(number, self.row)):
                    if behind not in self.before:
                        self.before[behind] = (number, change)
                        following.append(behind)
            level = following
            left = None if left is None else left - 1
        return None

    def told(self, number, last):
        """What is found, from where the search came to a change that is not let."""
        changes = [last]
        while self.before[number] is not None:
            number, change = self.before[number]
            changes.append(change)
        q = self.met.followed.pairs[number][1]
        return self.met.standing_at(number), q, tuple(reversed(list(changes)))


def shut_shortest(plant, chart, most):
    """A place met one by one and shortest changes from there, the last of which is not let; None without any."""
    check_chart(plant, chart)
    _check_most(most)
    met = OneByOne(plant, chart)
    found = []
    for row in list({row: True for row in met.followed.row_kinds.values()}):
        told = Nearest(met, row).found(most)
        if told is not None:
            found.append((len(told[2]), told))
    return min(found)[1] if found else None
