"""Lines that show rows, desks, tables, plays and machines."""

from guardrungs.bits import check_bits, row_at


def bits_line(row):
    """The bits one behind the other; - if there are none."""
    told = check_bits(row)
    return "".join([str(bit) for bit in told]) if told else "-"


def history_lines(desk):
    """A line for each cycle of the desk."""
    lines = []
    for number, (step, known) in enumerate(zip(desk.history, desk.known_done)):
        _, reading, answer, _ = step
        lot, word, _ = known
        lines.append(f"{number:>3} {bits_line(reading)} {bits_line(answer)} {len(lot):>3} {word}")
    return lines


def _lot_line(lot):
    return " ".join([str(p) for p in lot])


def table_lines(table):
    """A line for each lot of the table."""
    lines = []
    for lot in table.lots:
        rows = " ".join([bits_line(row) for row in table.let_at(lot)])
        lines.append(f"{_lot_line(lot)} : {rows}")
    return lines


def _reason_text(reason):
    word, data = reason
    return f"bad {data}" if word == "bad" else f"read {bits_line(data)}"


def _entry_text(word, data):
    if word == "never":
        return f"never {data}"
    if word == "shut":
        return f"shut {data[0]} end {data[1]}"
    reasons = ", ".join([_reason_text(reason) for reason in data])
    return f"rows {reasons}"


def play_lines(play):
    """A line for each entry of the play."""
    return [f"{_lot_line(lot)} : {_entry_text(word, data)}" for lot, word, data in play]


def machine_lines(machine):
    """A line for each standing and reading of the machine."""
    lines = []
    for standing, row in enumerate(machine.rows):
        for number, (answer, behind) in enumerate(row):
            reading = row_at(number, len(machine.inputs))
            lines.append(f"{standing} {bits_line(reading)} {bits_line(answer)} {behind}")
    return lines
