"""Step chains: steps, transitions and actions."""

from guardrungs.bits import is_order, is_whole, told_groups
from guardrungs.books import Book, check_names, numbered_names
from guardrungs.errors import BadBook, BadNumber
from guardrungs.formulas import is_formula, told_edges, worked


class ChainCycle:
    """One cycle of a chain, for all cases at once: each bit is a column.

    old, ages, taken and given have no entry for a step that is nowhere marked, taken or given. A step's age is 0 in
    the cases in which it is given; ages has what it is in the others.
    """

    def __init__(self, chain, standing, columns, full):
        self.full = full
        self.bits = {name: column for name, column in zip(chain.inputs, columns)}
        many = len(chain.steps)
        self.old = {step: full for step, bit in zip(chain.steps, standing) if bit == 1}
        self.ages = {step: age for step, age in zip(chain.steps, standing[many:]) if step in self.old}
        for step in list(chain.steps):
            self.bits[step] = self.old.get(step, 0)
        names = chain.outputs + chain.cells
        for name, bit in list(zip(names, standing[2 * many:])):
            self.bits[name] = full * bit
        self.seen = [full * bit for bit in standing[2 * many + len(names):]]
        self.taken = {}
        self.given = {}
        self.fired = []

    def fire(self, place, transition, seen):
        """Let the transition fire in the cases in which it can."""
        froms, formula, tos = transition
        column = self.full
        for step in froms:
            column = column & self.old.get(step, 0) & (self.full ^ self.taken.get(step, 0))
        if column != 0:
            column = column & worked(formula, self.bits, seen, self.full)
        if column == 0:
            return
        for step in list(froms):
            self.taken[step] = self.taken.get(step, 0) | column
        for step in list(tos):
            self.given[step] = self.given.get(step, 0) | column
        self.fired.append(place)

    def stays(self, step):
        """The cases in which the step stays marked and grows older."""
        gone = self.taken.get(step, 0) | self.given.get(step, 0)
        return self.old.get(step, 0) & (self.full ^ gone)

    def mark(self, top):
        """Set marks and ages; top is the greatest age. Each step that is marked in some case is returned."""
        marked = []
        new = [step for step in self.given if step not in self.old]
        for step in list(list(self.old) + new):
            self.bits[step] = self.stays(step) | self.given.get(step, 0)
            self.ages[step] = min(self.ages.get(step, 0) + 1, top)
            if self.bits[step] != 0:
                marked.append(step)
        return marked

    def shown(self, step, least, end):
        """The cases in which the step is marked and its age is at least least and less than end."""
        column = self.given.get(step, 0) if least == 0 else 0
        if least <= self.ages[step] and (end is None or self.ages[step] < end):
            column = column | self.stays(step)
        return column

    def ages_of(self, step):
        """The step's ages with their columns."""
        stays = self.stays(step)
        return [(self.ages[step], stays), (0, self.full ^ stays)]


class Chain(Book):
    """A book of steps that are marked; transitions take their marks and give new ones."""

    def __init__(self, inputs, outputs, steps, marked, transitions, actions, *, cells=()):
        self.inputs = tuple(inputs)
        self.outputs = tuple(outputs)
        self.steps = tuple(steps)
        self.marked = tuple(marked)
        self.transitions = tuple(transitions)
        self.actions = tuple(actions)
        self.cells = tuple(cells)
        self._check()
        self._edges = {}
        self._leaving = {step: [] for step in self.steps}
        for place, (froms, formula, _) in list(enumerate(self.transitions)):
            self._leaving[froms[0]].append(place)
            edges = told_edges(formula)
            if edges:
                self._edges[place] = edges
        self._shown = tuple([action[2] for action in self.actions if action[0] == "show"])
        self._acts = {step: [] for step in self.steps}
        for action in list(self.actions):
            self._acts[action[1]].append(action)
        numbers = [number for action in self.actions for number in action[3:] if number is not None]
        self._top = max(numbers, default=0)

    def _check(self):
        names = self.inputs + self.outputs + self.cells + self.steps
        check_names(names)
        known = {name: "bit" for name in names}
        known.update({step: "step" for step in self.steps})
        known.update({name: "name" for name in self.outputs + self.cells})
        _check_marked(self.marked, known)
        for place, transition in enumerate(self.transitions):
            if not _is_transition(transition, known):
                raise BadBook("transition", place)
        shown = {}
        for place, action in enumerate(self.actions):
            if not _is_action(action, known):
                raise BadBook("action", place)
            shows = action[0] == "show"
            if shown.get(action[2], shows) != shows:
                raise BadBook("action", place)
            shown[action[2]] = shows

    def start(self):
        """The steps that are marked at the start have the age -1."""
        marks = [1 if step in self.marked else 0 for step in self.steps]
        looks = sum([len(edges) for edges in self._edges.values()])
        return tuple(marks + [-bit for bit in marks] + [0] * (len(self.outputs + self.cells) + looks))

    def step(self, standing, reading):
        """The answer and the next standing."""
        return self.groups(standing, self.checked(reading), 1)[0][:2]

    def marks_in(self, standing):
        """The steps that are marked."""
        return tuple([step for step, bit in zip(self.steps, standing) if bit == 1])

    def fired_in(self, standing, reading):
        """The places of the transitions that fire in the cycle that begins here."""
        cycle, _ = self._fired(standing, self.checked(reading), 1)
        return tuple(cycle.fired)

    def in_order(self, order):
        """The same chain with the transitions in this order."""
        if not is_order(order, len(self.transitions)):
            raise BadNumber("order")
        return self.with_transitions([self.transitions[place] for place in order])

    def with_transitions(self, transitions):
        """The same chain with other transitions."""
        return Chain(self.inputs, self.outputs, self.steps, self.marked, transitions, self.actions, cells=self.cells)

    def _fired(self, standing, columns, full):
        """The cycle behind all transitions, and what they have seen of the names of their edges."""
        cycle = ChainCycle(self, standing, columns, full)
        places = {place: True for step in cycle.old for place in self._leaving[step]}
        places.update({place: True for place in self._edges})
        seen = []
        for place in sorted(places):
            edges = self._edges.get(place, ())
            last = {name: column for name, column in zip(edges, cycle.seen[len(seen):])}
            cycle.fire(place, self.transitions[place], last)
            seen.extend([cycle.bits[name] for name in edges])
        return cycle, seen

    def groups(self, standing, columns, full):
        """For groups of cases answer, next standing and column."""
        cycle, seen = self._fired(standing, columns, full)
        marked = cycle.mark(self._top)
        self._act(cycle, marked)
        kept = [cycle.bits[step] if step in cycle.ages else 0 for step in self.steps]
        kept.extend([cycle.ages_of(step) if step in cycle.ages else 0 for step in self.steps])
        names = [cycle.bits[name] for name in self.outputs + self.cells]
        return told_groups(names[:len(self.outputs)], kept + names + seen, full)

    def _act(self, cycle, marked):
        """Set the names behind the marks and ages."""
        bits = cycle.bits
        for name in list(self._shown):
            bits[name] = 0
        actions = [action for step in marked for action in self._acts[step]]
        for action in list(actions):
            word, step, name = action[:3]
            if word == "show":
                bits[name] = bits[name] | cycle.shown(step, action[3], action[4])
            elif word == "set":
                bits[name] = bits[name] | bits[step]
        for word, step, name in [action[:3] for action in actions]:
            if word == "reset":
                bits[name] = bits[name] & (cycle.full ^ bits[step])


def _check_marked(marked, known):
    """One or more different steps are marked at the start."""
    if not marked:
        raise BadBook("marked", -1)
    met = {}
    for place, step in enumerate(marked):
        if not _is_step(step, known) or step in met:
            raise BadBook("marked", place)
        met[step] = True


def _is_step(step, known):
    return isinstance(step, str) and known.get(step, "") == "step"


def _are_steps(steps, known):
    """True for a tuple of one or more different steps."""
    if not isinstance(steps, tuple) or not steps or not all([_is_step(step, known) for step in steps]):
        return False
    return len(set(steps)) == len(steps)


def _is_transition(transition, known):
    if not isinstance(transition, tuple) or len(transition) != 3:
        return False
    froms, formula, tos = transition
    return _are_steps(froms, known) and is_formula(formula, known) and _are_steps(tos, known)


def _is_action(action, known):
    if not isinstance(action, tuple) or len(action) < 3:
        return False
    word, step, name = action[:3]
    if not _is_step(step, known) or not isinstance(name, str) or known.get(name, "") != "name":
        return False
    if word in ("set", "reset"):
        return len(action) == 3
    if word != "show" or len(action) != 5 or not is_whole(action[3], 0, 16):
        return False
    return action[4] is None or is_whole(action[4], action[3] + 1, 16)


def free(chain):
    """The free chain: each transition's formula is an input of its own."""
    names = numbered_names("t", len(chain.transitions))
    transitions = [(froms, ("name", name), tos) for (froms, _, tos), name in zip(chain.transitions, names)]
    return Chain(names, (), chain.steps, chain.marked, transitions, ())
