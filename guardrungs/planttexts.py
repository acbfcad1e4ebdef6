"""Plants and wishes as texts."""

from guardrungs.errors import BadText
from guardrungs.formulas import is_name
from guardrungs.plants import Plant
from guardrungs.textlines import are_names, head_line, lines_of, number_from, words_of
from guardrungs.wishes import Wish


def _numbers(words):
    """The numbers that the words tell; None if a word tells none."""
    numbers = tuple([number_from(word) for word in words])
    return None if -1 in numbers else numbers


def _input_line(told):
    if told[0] == "mark":
        return head_line("mark", told[1])
    return head_line("level", [str(number) for number in (told[1],) + told[2]])


def plant_text(plant):
    """The text of a plant."""
    lines = ["plant"]
    for size, arrows in plant.machines:
        lines.append(f"machine {size}")
        lines.extend([f"{begin} {change} {end}" for begin, change, end in arrows])
    lines.append(f"outputs {plant.outputs}")
    lines.extend([f"driver {change} {output} {bit}" for change, output, bit in plant.drivers])
    lines.extend([_input_line(told) for told in plant.inputs])
    return "\n".join(lines)


def _first_line(text, title):
    """The lines behind the first one, which has the title alone."""
    lines = lines_of(text)
    if not lines:
        raise BadText(0)
    if words_of(lines[0][1]) != [title]:
        raise BadText(lines[0][0])
    return lines[1:]


def _arrow_from(words):
    """The arrow that the words tell; None if they tell none."""
    if len(words) != 3 or not is_name(words[1]):
        return None
    ends = _numbers([words[0], words[2]])
    return None if ends is None else (ends[0], words[1], ends[1])


def _head_from(words, head):
    """The number behind this word; None if the words are others."""
    if len(words) != 2 or words[0] != head or number_from(words[1]) < 0:
        return None
    return number_from(words[1])


def _driver_from(words):
    if len(words) != 4 or words[0] != "driver" or not is_name(words[1]):
        return None
    numbers = _numbers(words[2:])
    return None if numbers is None else (words[1],) + numbers


def _input_from(words):
    if words[0] == "mark":
        return ("mark", tuple(words[1:])) if are_names(words[1:]) else None
    numbers = _numbers(words[1:])
    if words[0] != "level" or not numbers:
        return None
    return ("level", numbers[0], numbers[1:])


def _machines_from(lines):
    """The machines, and how many of the lines tell them."""
    machines = []
    for at, (number, line) in list(enumerate(lines)):
        words = words_of(line)
        size = _head_from(words, "machine")
        if size is not None:
            machines.append((size, []))
            continue
        if _head_from(words, "outputs") is not None:
            return machines, at
        arrow = _arrow_from(words)
        if arrow is None or not machines:
            raise BadText(number)
        machines[-1][1].append(arrow)
    raise BadText(0)


def plant_from(text):
    """The plant that the text tells."""
    lines = _first_line(text, "plant")
    machines, at = _machines_from(lines)
    outputs = _head_from(words_of(lines[at][1]), "outputs")
    drivers = []
    inputs = []
    for number, line in lines[at + 1:]:
        words = words_of(line)
        driver = None if inputs else _driver_from(words)
        told = _input_from(words)
        if driver is not None:
            drivers.append(driver)
        elif told is not None:
            inputs.append(told)
        else:
            raise BadText(number)
    return Plant([(size, tuple(arrows)) for size, arrows in machines], outputs, inputs, drivers=drivers)


def _pattern_text(pattern):
    return " ".join([f"{machine}={standing}" for machine, standing in pattern]) if pattern else "always"


def wish_text(wish):
    """The text of a wish."""
    lines = ["wish"]
    lines.extend([f"never {_pattern_text(pattern)}" for pattern in wish.never])
    for number, end in enumerate(wish.ends):
        lines.append(f"end {number}")
        lines.extend([_pattern_text(pattern) for pattern in end])
    return "\n".join(lines)


def _pattern_from(words):
    """The pattern that the words tell; None if they tell none."""
    if words == ["always"]:
        return ()
    pattern = []
    for word in words:
        machine, _, standing = word.partition("=")
        pair = _numbers([machine, standing])
        if pair is None:
            return None
        pattern.append(pair)
    return tuple(pattern) if pattern else None


def wish_from(text):
    """The wish that the text tells."""
    never = []
    ends = []
    for number, line in list(_first_line(text, "wish")):
        words = words_of(line)
        if _head_from(words, "end") == len(ends):
            ends.append([])
            continue
        pattern = _pattern_from(words[1:] if words[0] == "never" else words)
        if pattern is None or (words[0] == "never") != (len(ends) == 0):
            raise BadText(number)
        if ends:
            ends[-1].append(pattern)
        else:
            never.append(pattern)
    return Wish(never, ends)
