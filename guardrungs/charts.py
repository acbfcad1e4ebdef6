"""Charts: guards that see each change as it comes."""

from guardrungs.bits import is_listed, is_row, is_whole
from guardrungs.errors import BadNumber, BadPlant, TooMany
from guardrungs.moves import Ground, open_changes
from guardrungs.wishes import fits


def _is_shaped(chart):
    """True for a tuple of two tuples of the same length, at least 1."""
    if not isinstance(chart, tuple) or len(chart) != 2:
        return False
    if not isinstance(chart[0], tuple) or not isinstance(chart[1], tuple):
        return False
    return len(chart[0]) == len(chart[1]) and len(chart[0]) > 0


def check_chart(plant, chart):
    """Raise what the chart is refused by."""
    if not _is_shaped(chart):
        raise BadPlant("chart", -1)
    out, arrows = chart
    many = len(out)
    if many > 60:
        raise TooMany(60)
    for q, (row, ways) in enumerate(zip(out, arrows)):
        if not is_row(row, plant.outputs) or not isinstance(ways, tuple) or len(ways) != len(plant.changes):
            raise BadPlant("chart", q)
        if not all([is_whole(behind, 0, many - 1) for behind in ways]):
            raise BadPlant("chart", q)


def _check_standing(chart, q):
    if not is_whole(q, 0, len(chart[0]) - 1):
        raise BadNumber("standing")


def chart_after(plant, chart, q, changes):
    """The chart's standing behind these changes from q on."""
    check_chart(plant, chart)
    _check_standing(chart, q)
    places = {change: place for place, change in enumerate(plant.changes)}
    if not is_listed(changes) or not all([isinstance(change, str) and change in places for change in changes]):
        raise BadNumber("change")
    for change in changes:
        q = chart[1][q][places[change]]
    return q


def chart_row(chart, q):
    """The row that the chart writes at q."""
    _check_standing(chart, q)
    return tuple(chart[0][q])


class Followed:
    """The pairs of a plant standing and a chart's standing, numbered as they are asked for.

    Changes lead from pair to pair, as they do from standing to standing on a Ground; the chart follows its arrows.
    """

    def __init__(self, plant, chart, ground):
        self.plant = plant
        self.out = [tuple(row) for row in chart[0]]
        self.arrows = chart[1]
        self.ground = ground
        self.lows = ground.lows
        self.marks = ground.marks
        self.places = {change: place for place, change in enumerate(plant.changes)}
        self.numbers = {}
        self.pairs = []
        # Rows that let the same changes come are told by the first one of them.
        firsts = {}
        self.row_kinds = {row: firsts.setdefault(open_changes(plant, row), row) for row in self.out}
        self.told_named = {row: {} for row in firsts.values()}
        self.told_ways = {row: {} for row in firsts.values()}

    def number_of(self, standing, q):
        """The number of the pair of a plant standing's number and a chart's standing."""
        if (standing, q) not in self.numbers:
            self.numbers[(standing, q)] = len(self.pairs)
            self.pairs.append((standing, q))
        return self.numbers[(standing, q)]

    def lets(self, change, q):
        """True if the chart lets the change at q."""
        return self.plant.lets(change, self.out[q])

    def named_ways(self, number, row):
        """For each change that is possible at the pair under the row: it, its marks, the pair behind it."""
        known = self.told_named[self.row_kinds[row]]
        if number not in known:
            standing, q = self.pairs[number]
            told = []
            for change, behind in list(self.ground.arrows_of(standing)):
                if self.plant.lets(change, row):
                    following = self.number_of(behind, self.arrows[q][self.places[change]])
                    told.append((change, self.marks[change], following))
            known[number] = told
        return known[number]

    def ways_from(self, number, row):
        """The same without the changes."""
        known = self.told_ways[self.row_kinds[row]]
        if number not in known:
            known[number] = [(places, behind) for _, places, behind in self.named_ways(number, row)]
        return known[number]

    def unlet(self, number, row):
        """The first change possible at the pair under the row that the chart does not let; None if there is none."""
        q = self.pairs[number][1]
        if self.row_kinds[row] == self.row_kinds[self.out[q]]:
            return None
        for change, _, _ in self.named_ways(number, row):
            if not self.lets(change, q):
                return change
        return None


class OneByOne:
    """The places of a chart, met one by one, with what leads to each."""

    def __init__(self, plant, chart):
        self.followed = Followed(plant, chart, Ground(plant, plant.origin))
        self.places = [self.followed.number_of(0, 0)]
        self.before = {self.places[0]: None}
        self.ahead = {}
        at = 0
        while at < len(self.places):
            self.go_on(self.places[at])
            at += 1

    def go_on(self, number):
        """Meet the places behind this one."""
        row = self.followed.out[self.followed.pairs[number][1]]
        for change, _, behind in list(self.followed.named_ways(number, row)):
            self.ahead.setdefault(behind, []).append(number)
            if behind not in self.before:
                self.before[behind] = (number, change)
                self.places.append(behind)

    def standing_at(self, number):
        """The plant standing of this place."""
        return self.followed.ground.standings[self.followed.pairs[number][0]]

    def changes_to(self, number):
        """A shortest row of changes to this place."""
        told = []
        while self.before[number] is not None:
            number, change = self.before[number]
            told.append(change)
        return tuple(reversed(list(told)))

    def leading_to(self, end):
        """The places, as keys, from which changes lead to a place of the end."""
        told = {number: True for number in self.places if fits(end, self.standing_at(number))}
        left = list(told)
        while left:
            new = list({number: True for number in self.ahead.get(left.pop(), []) if number not in told})
            told.update({number: True for number in new})
            left.extend(new)
        return told


def judge_chart(plant, wish, chart):
    """Whether the chart keeps the wish one by one, and if not, changes that show it."""
    check_chart(plant, chart)
    if fits(wish.never, plant.origin):
        return ("never", (), None)
    met = OneByOne(plant, chart)
    for number in met.places:
        if fits(wish.never, met.standing_at(number)):
            return ("bad", met.changes_to(number), None)
    reaches = [met.leading_to(end) for end in wish.ends]
    for number in met.places:
        for end, reach in enumerate(reaches):
            if number not in reach:
                return ("shut", met.changes_to(number), end)
    return ("good", (), None)
