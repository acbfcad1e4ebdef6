"""Least machines: alike standings and the rounds that part unlike ones."""

from guardrungs.bits import is_whole, row_at
from guardrungs.errors import BadNumber, OtherShape
from guardrungs.machines import Machine


def numbered(keys):
    """For each key its number, equal ones having one; numbered in the order of their first places."""
    numbers = {}
    told = []
    for key in keys:
        if key not in numbers:
            numbers[key] = len(numbers)
        told.append(numbers[key])
    return told


def splits(rows):
    """The classes of all standings ahead of the first round and behind each round that splits something."""
    answers = numbered([tuple([answer for answer, _ in row]) for row in rows])
    # Readings that lead everywhere to the same standings part nothing that one of them does not part.
    behinds = [[behind for _, behind in row] for row in rows]
    columns = list({column: True for column in zip(*behinds)})
    behinds = list(zip(*columns))
    rounds_told = [[0] * len(rows)]
    now = answers
    while max(now) > max(rounds_told[-1]):
        rounds_told.append(now)
        keys = [(old, tuple([now[state] for state in behind])) for old, behind in zip(now, behinds)]
        now = numbered(keys)
    return rounds_told


def reached_rows(rows):
    """The rows of the standings that are reached, numbered as met."""
    numbers = {0: 0}
    met = [0]
    told = []
    while len(told) < len(met):
        standing = met[len(told)]
        row = []
        for answer, behind in rows[standing]:
            if behind not in numbers:
                numbers[behind] = len(met)
                met.append(behind)
            row.append((answer, numbers[behind]))
        told.append(row)
    return told


def least(machine):
    """The least machine."""
    rows = reached_rows(machine.rows)
    told = splits(rows)[-1]
    firsts = {}
    for standing, number in enumerate(told):
        firsts.setdefault(number, standing)
    merged = [[(answer, told[behind]) for answer, behind in rows[standing]] for standing in firsts.values()]
    return Machine(machine.inputs, machine.outputs, reached_rows(merged))


def classes(machine):
    """For each standing the number of its class of alike standings."""
    return tuple(splits(machine.rows)[-1])


def rounds(machine):
    """The number of rounds that split something."""
    return len(splits(machine.rows)) - 1


def told_apart(machine, s, t):
    """The least shortest row of readings that tells the standings apart; None if they are alike."""
    if not is_whole(s, 0, len(machine.rows) - 1):
        raise BadNumber("s")
    if not is_whole(t, 0, len(machine.rows) - 1):
        raise BadNumber("t")
    return telling_row(machine.rows, splits(machine.rows), s, t, len(machine.inputs))


def telling_row(rows, parted, s, t, inputs):
    """The least shortest row of readings that tells two standings of these rows apart; None if they are alike.

    parted is what splits tells of the rows, inputs the number of inputs.
    """
    left = rounds_together(parted, s, t)
    if left == len(parted):
        return None
    told = []
    while left > 0:
        left -= 1
        number = _parting(rows[s], rows[t], parted[left], left)
        told.append(row_at(number, inputs))
        s, t = rows[s][number][1], rows[t][number][1]
    return tuple(told)


def rounds_together(parted, s, t):
    """In how many of the lots of classes that splits tells the two standings are in one class."""
    many = 0
    while many < len(parted) and parted[many][s] == parted[many][t]:
        many += 1
    return many


def _parting(row, other, told, left):
    """The number of the least reading behind which so many readings, or for 0 the answers, part two standings."""
    for number, (pair, other_pair) in enumerate(zip(row, other)):
        if left == 0 and pair[0] != other_pair[0]:
            return number
        if left > 0 and told[pair[1]] != told[other_pair[1]]:
            return number
    return -1


def ways_to(rows):
    """For each standing the numbers of the readings of a shortest row that leads to it."""
    ways = {0: ()}
    met = [0]
    for at in range(len(rows)):
        standing = met[at]
        for number, (_, behind) in enumerate(rows[standing]):
            if behind not in ways:
                ways[behind] = ways[standing] + (number,)
                met.append(behind)
    return ways


def alike_machines(m, n):
    """True if the two machines answer all rows of readings alike."""
    if len(m.inputs) != len(n.inputs) or len(m.outputs) != len(n.outputs):
        raise OtherShape()
    return rows_alike(m.rows, n.rows)


def rows_alike(rows, others):
    """True if the first standings of the rows of two machines of one shape are alike."""
    # Standings that must be alike if the first ones are get one root; the others' standings stand behind the rows'.
    many = len(rows)
    above = list(range(many + len(others)))
    above[many] = 0
    left = [(0, 0)]
    while left:
        s, t = left.pop()
        if [answer for answer, _ in rows[s]] != [answer for answer, _ in others[t]]:
            return False
        pairs = {(behind, other): True for (_, behind), (_, other) in zip(rows[s], others[t])}
        for behind, other in pairs:
            root = _root(above, behind)
            other_root = _root(above, many + other)
            if root != other_root:
                above[other_root] = root
                left.append((behind, other))
    return True


def _root(above, place):
    """The root of the place; ways to it are made shorter."""
    while above[place] != place:
        above[place] = above[above[place]]
        place = above[place]
    return place
