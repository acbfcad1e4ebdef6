"""Charts carried by cycles: guards that see the readings alone and write what a chart wants."""

from guardrungs.arenas import Arena
from guardrungs.bits import places_in
from guardrungs.books import Book, numbered_names
from guardrungs.charts import Followed, check_chart
from guardrungs.errors import NotCarried, TooMany
from guardrungs.fallingrows import falling_row
from guardrungs.moves import fallen, layer_pairs


class Cuts:
    """The cut lots of a chart in an arena, numbered as met.

    A lot is told by its mask: the pair (p, q) is the bit at the place p * many + q. What the arena keeps beside the
    plant standing, counts, states and last, is called a context here.
    """

    def __init__(self, arena, chart):
        self.arena = arena
        self.made = arena.made
        self.many = len(chart[0])
        self.followed = Followed(arena.plant, chart, arena.made.ground)
        self.lots = [1]
        self.numbers = {1: 0}
        self.before = [None]
        self.steps = []
        self.level = [0]
        self.told_behind = {}
        self.clean = {row: {} for row in self.followed.out}

    def pairs_in(self, number):
        """The pairs of this lot, ascending."""
        return [(code // self.many, code % self.many) for code in places_in(self.lots[number])]

    def row_at(self, number):
        """The row that the chart wants at the first pair of this lot."""
        return self.followed.out[self.pairs_in(number)[0][1]]

    def context_of(self, p):
        """What the arena keeps at p beside the plant standing."""
        return self.arena.standings[p][1:]

    def node_of(self, p, q):
        """The number of the plant standing at p and the chart's standing q."""
        return self.followed.number_of(self.made.ground.numbers[self.arena.standings[p][0]], q)

    def behind(self, context, marks, standing):
        """Pairs of what is told and the arena standing behind it, for a pair of marks and plant standing."""
        key = (context, marks, standing)
        if key not in self.told_behind:
            counts, states, last = context
            true = self.made.true_reading(marks, standing)
            plant_standing = self.made.ground.standings[standing]
            left, _ = self.made.counted(counts, plant_standing)
            told = []
            for reading, kinds in list(self.made.tellings(states, true, last)):
                whole = (plant_standing, left, kinds, self.made.laid_by(true))
                told.append((reading, self.made.numbers.get(whole, -1)))
            self.told_behind[key] = told
        return self.told_behind[key]

    def steps_from(self, number):
        """Pairs of a reading and the mask of the lot behind, ascending."""
        row = self.row_at(number)
        layers = {}
        for p, q in list(self.pairs_in(number)):
            layers.setdefault(self.context_of(p), {})[self.node_of(p, q)] = 1
        told = {}
        for context, layer in list(layers.items()):
            found = fallen(self.followed, row, self.arena.fewest, self.arena.most, layer)
            for marks, node in list(layer_pairs(found)):
                standing, q = self.followed.pairs[node]
                for reading, p in list(self.behind(context, marks, standing)):
                    told[reading] = told.get(reading, 0) | (1 << (p * self.many + q))
        return sorted(list(told.items()))

    def go_on(self):
        """Meet the lots behind those of the level, which are the next one."""
        found = [(number, self.steps_from(number)) for number in list(self.level)]
        following = []
        for number, pairs in list(found):
            told = {}
            for reading, mask in list(pairs):
                if mask not in self.numbers:
                    self.numbers[mask] = len(self.lots)
                    following.append(len(self.lots))
                    self.lots.append(mask)
                    self.before.append((number, reading))
                    if len(self.lots) > 4000:
                        raise TooMany(4000)
                told[reading] = self.numbers[mask]
            self.steps.append(told)
        self.level = following

    def unlike(self, number):
        """Two pairs of the lot at which the chart wants unlike rows; None if there are none."""
        pairs = self.pairs_in(number)
        out = self.followed.out
        for pair in pairs:
            if out[pair[1]] != out[pairs[0][1]]:
                return pairs[0], pair
        return None

    def shut(self, number):
        """A pair of the lot and changes from there, only the last of which the chart does not let; None without any."""
        row = self.row_at(number)
        clean = self.clean[row]
        firsts = {self.node_of(p, q): (p, q) for p, q in list(self.pairs_in(number))}
        before = {node: None for node in firsts}
        level = [node for node in before if node not in clean]
        left = self.arena.most
        while level and left != 0:
            following = []
            for node in list(level):
                last = self.followed.unlet(node, row)
                if last is not None:
                    return self.told_shut(firsts, before, node, last)
                for change, _, behind in list(self.followed.named_ways(node, row)):
                    if behind not in before and behind not in clean:
                        before[behind] = (node, change)
                        following.append(behind)
            level = following
            left = None if left is None else left - 1
        if not level:
            # From none of these any row of changes, however long, leads to such a change.
            self.clean[row].update({node: True for node in before})
        return None

    def told_shut(self, firsts, before, node, last):
        """The pair and the changes that a search found."""
        changes = [last]
        while before[node] is not None:
            node, change = before[node]
            changes.append(change)
        return firsts[node], tuple(reversed(list(changes)))

    def run_to(self, number, pair):
        """A cut run to this pair of this lot."""
        steps = []
        while self.before[number] is not None:
            number, reading = self.before[number]
            p = pair[0]
            pair, changes = self.cut_step(number, reading, pair)
            steps.append((self.row_at(number), changes, reading, p))
        return tuple(reversed(list(steps)))

    def cut_step(self, number, reading, pair):
        """A pair of this lot and a falling row of changes from there that leads to the reading and the pair."""
        p, q = pair
        node = self.node_of(p, q)
        standing = self.followed.pairs[node][0]
        row = self.row_at(number)
        for ahead in list(self.pairs_in(number)):
            context = self.context_of(ahead[0])
            lot = 0
            for marks in range(self.made.ground.width):
                if (reading, p) in self.behind(context, marks, standing):
                    lot = lot | (1 << marks)
            first = self.node_of(ahead[0], ahead[1])
            changes = falling_row(self.followed, row, self.arena.fewest, self.arena.most, first, {node: lot})
            if changes is not None:
                return ahead, changes
        return None

    def judged(self):
        """Whether the chart is carried, and if not, a shortest run that shows it."""
        while self.level:
            for number in list(self.level):
                pairs = self.unlike(number)
                if pairs is not None:
                    return ("unlike", self.run_to(number, pairs[0]), self.run_to(number, pairs[1]))
                told = self.shut(number)
                if told is not None:
                    return ("shut", self.run_to(number, told[0]), told[1])
            self.go_on()
        return ("carried", (), None)


def carried_by(arena, chart):
    """Whether some guard carries the chart, and if not, a shortest run that shows it."""
    check_chart(arena.plant, chart)
    return Cuts(arena, chart).judged()


def is_carried(arena, chart):
    """True if some guard carries the chart."""
    return carried_by(arena, chart)[0] == "carried"


class Carrier(Book):
    """The guard that carries a chart. It keeps the cut lot."""

    def __init__(self, arena, chart):
        check_chart(arena.plant, chart)
        cuts = Cuts(arena, chart)
        if cuts.judged()[0] != "carried":
            raise NotCarried()
        self.first = arena.first
        self.cuts = cuts
        self.rows = [cuts.row_at(number) for number in range(len(cuts.lots))]
        self.inputs = numbered_names("x", len(arena.plant.inputs))
        self.outputs = numbered_names("y", arena.plant.outputs)

    def start(self):
        """No lot is known."""
        return (-1,)

    def step(self, standing, reading):
        """The answer and the next standing."""
        row = self.checked(reading)
        number = standing[0]
        if number < 0:
            number = 0 if row == self.first else -1
        else:
            number = self.cuts.steps[number].get(row, number)
        return self.rows[max(number, 0)], (number,)

    def lot_of(self, standing):
        """The cut lot in this standing; () at the start."""
        return tuple(self.cuts.pairs_in(standing[0])) if standing[0] >= 0 else ()


def carried_upto(plant, chart):
    """The greatest k for which the chart is carried at (0, k); None if it is at (0, None)."""
    check_chart(plant, chart)
    if is_carried(Arena(plant, 0, None), chart):
        return None
    for k in range(1, 25):
        if not is_carried(Arena(plant, 0, k), chart):
            return k - 1
    return 24
