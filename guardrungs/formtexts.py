"""Formulas as texts."""

from guardrungs.errors import BadFormula, BadText
from guardrungs.formulas import DEEPEST, EDGES, JOINTS, check_formula, is_name


def told_text(formula):
    """As formula_text, of what is known to be a formula."""
    kind, inside = formula
    if kind == "bit":
        return str(inside)
    if kind == "name":
        return inside
    if kind in EDGES:
        return f"{kind} {inside}"
    if kind == "not":
        return f"not {told_text(inside)}"
    joint = f" {kind} "
    parts = joint.join([told_text(part) for part in inside])
    return f"({parts})"


def formula_text(formula):
    """The text of the formula."""
    check_formula(formula)
    return told_text(formula)


class Bracket:
    """An open bracket, or the whole text: what has been read in it so far."""

    def __init__(self):
        self.parts = []
        self.depth = 0
        self.joint = ""
        self.nots = 0

    def take(self, formula, depth):
        """A formula has been read; each not that waits for it goes round it."""
        for _ in range(self.nots):
            formula = ("not", formula)
        self.depth = max(self.depth, depth + self.nots)
        self.nots = 0
        self.parts.append(formula)

    def whole(self):
        """The formula in this bracket and its depth."""
        if self.joint == "":
            return self.parts[0], self.depth
        return (self.joint, tuple(self.parts)), self.depth + 1


class Reader:
    """Reads a formula word by word, with a list of open brackets so that no depth is too much for it."""

    def __init__(self):
        self.brackets = [Bracket()]
        self.edge = ""
        self.wants = True

    def read(self, word):
        """Read the next word; False if it may not stand here."""
        if self.edge != "":
            return self.read_edge_name(word)
        if self.wants:
            return self.read_beginning(word)
        return self.read_behind(word)

    def read_edge_name(self, word):
        """Read the name behind rise or fall."""
        if not is_name(word):
            return False
        self.took((self.edge, word), 1)
        self.edge = ""
        return True

    def read_beginning(self, word):
        """Read a word where a formula must begin."""
        bracket = self.brackets[-1]
        if word == "(":
            self.brackets.append(Bracket())
        elif word == "not":
            bracket.nots += 1
        elif word in EDGES:
            self.edge = word
        elif word in ("0", "1"):
            self.took(("bit", int(word)), 1)
        elif is_name(word):
            self.took(("name", word), 1)
        else:
            return False
        return True

    def read_behind(self, word):
        """Read a word behind a whole formula: only a bracket lets one stand there."""
        if len(self.brackets) == 1:
            return False
        bracket = self.brackets[-1]
        if word == ")":
            self.brackets.pop()
            formula, depth = bracket.whole()
            self.took(formula, depth)
            return True
        if word not in JOINTS or bracket.joint not in ("", word):
            return False
        bracket.joint = word
        self.wants = True
        return True

    def took(self, formula, depth):
        """A whole formula stands in the innermost bracket."""
        self.brackets[-1].take(formula, depth)
        self.wants = False


def read_formula(text):
    """The formula that this string tells and its depth, which may be too great; None if it tells none."""
    reader = Reader()
    for word in text.replace("(", " ( ").replace(")", " ) ").split(" "):
        if word != "" and not reader.read(word):
            return None
    if reader.wants or len(reader.brackets) > 1:
        return None
    return reader.brackets[0].whole()


def formula_or_none(text):
    """The formula that this string tells; None if it tells none or one that is too deep."""
    told = read_formula(text)
    return None if told is None or told[1] > DEEPEST else told[0]


def formula_from(text):
    """The formula that the text tells."""
    if not isinstance(text, str):
        raise BadText(0)
    told = read_formula(text)
    if told is None:
        raise BadText(1)
    formula, depth = told
    if depth > DEEPEST:
        raise BadText(1) from BadFormula()
    return formula
