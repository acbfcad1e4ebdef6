"""What all texts of books have in common: lines, words and numbers."""

from guardrungs.errors import BadText
from guardrungs.formulas import is_name

FIGURES = "0123456789"


def words_of(line):
    """The words of a line, parted by blanks alone."""
    return [word for word in line.split(" ") if word != ""]


def number_from(word):
    """The number that the word tells; -1 if it tells none."""
    if not 1 <= len(word) <= 6 or not all([sign in FIGURES for sign in word]):
        return -1
    return -1 if len(word) > 1 and word[0] == "0" else int(word)


def are_names(words):
    """True if all of these words are names."""
    return all([is_name(word) for word in words])


def lines_of(text):
    """The lines that are no blanks alone, as pairs of number, from 1, and line."""
    if not isinstance(text, str):
        raise BadText(0)
    return [(at + 1, line) for at, line in enumerate(text.split("\n")) if line.strip(" ") != ""]


def read_heads(lines, title, heads):
    """The names behind each of the heads, which stand behind the title at the beginning of the lines."""
    told = []
    for at, head in enumerate((title,) + heads):
        if at == len(lines):
            raise BadText(0)
        number, line = lines[at]
        words = words_of(line)
        if words[0] != head or not are_names(words[1:]) or (at == 0 and len(words) > 1):
            raise BadText(number)
        told.append(tuple(words[1:]))
    return told[1:]


def read_parts(lines, read, sorts):
    """The parts that the lines tell, a list for each sort, the sorts coming in order.

    read(line) gives the number of the sort and the part, or None.
    """
    parts = [[] for _ in range(sorts)]
    latest = 0
    for number, line in list(lines):
        told = read(line)
        if told is None or told[0] < latest:
            raise BadText(number)
        latest = told[0]
        parts[latest].append(told[1])
    return parts


def head_line(head, names):
    """A line of a head and the names behind it."""
    return " ".join([head] + list(names))
