"""Papers: bits that were read and tell an answer, whatever the others were."""

from guardrungs.bits import is_listed, is_whole, mask_of, number_of, places_in, row_at
from guardrungs.errors import BadLot, BadNumber, BadRow, TooMany
from guardrungs.machines import check_inputs


def _told_readings(book, readings):
    """The readings as tuples, if they are some of the book."""
    check_inputs(book)
    if not is_listed(readings) or len(readings) == 0:
        raise BadRow(-1)
    if len(readings) > 40:
        raise TooMany(40)
    return [book.checked(reading) for reading in readings]


def _check_output(book, output):
    if not is_whole(output, 0, len(book.outputs) - 1):
        raise BadNumber("output")


def _is_pair(pair, inputs, cycles):
    if not is_listed(pair) or len(pair) != 2:
        return False
    return is_whole(pair[0], 0, inputs - 1) and is_whole(pair[1], 0, cycles - 1)


def _told_lot(lot, inputs, cycles):
    """The lot of pairs as tuples."""
    if not is_listed(lot):
        raise BadLot(-1)
    told = []
    for place, pair in enumerate(lot):
        if not _is_pair(pair, inputs, cycles) or (told and tuple(pair) <= told[-1]):
            raise BadLot(place)
        told.append(tuple(pair))
    return told


class Trail:
    """Where rows of readings that agree on some pairs lead a book, cycle by cycle.

    The book's standings are numbered as they are met, and lots of them told by masks; lots of readings are columns,
    masks of the readings' numbers. free tells for each cycle the inputs that are free, as a mask of places; masks has
    those of the standings ahead of the cycles.
    """

    def __init__(self, book, readings, output):
        self.book = book
        self.readings = readings
        self.output = output
        self.inputs = len(book.inputs)
        self.numbers = {book.start(): 0}
        self.standings = [book.start()]
        self.told_groups = {}
        self.told_columns = {}
        self.images = {}
        self.free = [0] * len(readings)
        self.wanted = book.run(readings)[-1][output]
        self.masks = [1]

    def free_all_but(self, lot):
        """Let all inputs be free in all cycles but these pairs."""
        everywhere = (1 << self.inputs) - 1
        for cycle in range(len(self.free)):
            self.free[cycle] = everywhere ^ mask_of([place for place, other in lot if other == cycle])
        self.masks = self.masks_from(0, [1])

    def groups(self, number):
        """For the standing: triples of the output's bit, the number of the next standing and a column of readings."""
        if number not in self.told_groups:
            told = []
            standing = self.standings[number]
            for answer, behind, column in list(self.book.step_groups(standing)):
                if behind not in self.numbers:
                    self.numbers[behind] = len(self.standings)
                    self.standings.append(behind)
                told.append((answer[self.output], self.numbers[behind], column))
            self.told_groups[number] = told
        return self.told_groups[number]

    def column(self, cycle):
        """The column of the readings that agree, in this cycle, with the one there at the inputs that are not free."""
        key = (self.readings[cycle], self.free[cycle])
        if key not in self.told_columns:
            numbers = [number_of(key[0])]
            for place in places_in(key[1]):
                bit = 1 << (self.inputs - 1 - place)
                numbers = numbers + [number ^ bit for number in numbers]
            self.told_columns[key] = mask_of(numbers)
        return self.told_columns[key]

    def behind(self, mask, column):
        """The mask of the standings behind those of the mask and the readings of the column."""
        images = self.images.setdefault(column, {})
        told = 0
        for number in list(places_in(mask)):
            if number not in images:
                groups = list(self.groups(number))
                images[number] = mask_of([behind for _, behind, some in groups if some & column != 0])
            told = told | images[number]
        return told

    def masks_from(self, cycle, masks):
        """The masks of standings ahead of all cycles, those up to this cycle being told."""
        told = list(masks)
        for at in range(cycle, len(self.readings) - 1):
            told.append(self.behind(told[-1], self.column(at)))
            if len(places_in(told[-1])) > 2000:
                raise TooMany(2000)
        return told

    def other_group(self, mask):
        """A standing of the mask and a reading of the last cycle with the other bit; None if there are none."""
        column = self.column(len(self.readings) - 1)
        for number in list(places_in(mask)):
            for bit, _, some in list(self.groups(number)):
                if bit != self.wanted and some & column != 0:
                    return number, some & column
        return None

    def leave_out(self, pair):
        """Let the input of the pair be free in its cycle, if what is left then is a paper."""
        place, cycle = pair
        self.free[cycle] = self.free[cycle] | (1 << place)
        masks = self.masks_from(cycle, self.masks[:cycle + 1])
        if self.other_group(masks[-1]) is None:
            self.masks = masks
            return True
        self.free[cycle] = self.free[cycle] ^ (1 << place)
        return False

    def otherwise(self):
        """Readings that agree and tell the other bit; None if there are none."""
        found = self.other_group(self.masks[-1])
        if found is None:
            return None
        number, column = found
        told = [self.first_of(column)]
        for cycle in range(len(self.readings) - 2, -1, -1):
            number, column = self.led_by(cycle, number)
            told.append(self.first_of(column))
        return tuple(reversed(list(told)))

    def led_by(self, cycle, behind):
        """A standing ahead of the cycle, and readings, that lead to the one behind."""
        allowed = self.column(cycle)
        for number in list(places_in(self.masks[cycle])):
            for _, following, some in list(self.groups(number)):
                if following == behind and some & allowed != 0:
                    return number, some & allowed
        return None

    def first_of(self, column):
        """The first reading of the column."""
        return row_at((column & -column).bit_length() - 1, self.inputs)


def _trail(book, readings, output, lot):
    told = _told_readings(book, readings)
    _check_output(book, output)
    pairs = _told_lot(lot, len(book.inputs), len(told))
    trail = Trail(book, told, output)
    trail.free_all_but(pairs)
    return trail


def is_paper(book, readings, output, lot):
    """True exactly if the lot is a paper."""
    trail = _trail(book, readings, output, lot)
    return trail.other_group(trail.masks[-1]) is None


def told_otherwise(book, readings, output, lot):
    """Readings with the bits of the lot whose last answer has the other bit; None if the lot is a paper."""
    return _trail(book, readings, output, lot).otherwise()


def lean_paper(book, readings, output):
    """A lean paper: each pair is left out, if it can be."""
    told = _told_readings(book, readings)
    _check_output(book, output)
    every = [(place, cycle) for place in range(len(book.inputs)) for cycle in range(len(told))]
    trail = Trail(book, told, output)
    trail.free_all_but(every)
    return tuple([pair for pair in list(every) if not trail.leave_out(pair)])


def what_if(book, readings, place, cycle):
    """The first cycle and output at which the answers differ if this bit is turned; None if they do not."""
    told = _told_readings(book, readings)
    if not is_whole(place, 0, len(book.inputs) - 1):
        raise BadNumber("place")
    if not is_whole(cycle, 0, len(told) - 1):
        raise BadNumber("cycle")
    row = told[cycle]
    turned_row = row[:place] + (1 - row[place],) + row[place + 1:]
    answers = book.run(told)
    others = book.run(told[:cycle] + [turned_row] + told[cycle + 1:])
    for at, (answer, other) in enumerate(zip(answers, others)):
        for output, (bit, told_bit) in enumerate(zip(answer, other)):
            if bit != told_bit:
                return at, output
    return None
