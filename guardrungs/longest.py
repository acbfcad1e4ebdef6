"""Longest rows of things that lead to one another, and rings of them."""


class Longest:
    """What leads to what, by numbers, and how long the rows are that begin at each.

    Not all numbers count; the others only lead on. heights tells for each number how many that count are in the
    longest row that begins there, None if there are ever longer ones.
    """

    def __init__(self, follows, counts):
        self.follows = follows
        self.counts = counts
        self.heights = [None] * len(follows)
        ahead = [[] for _ in follows]
        for number, behinds in list(enumerate(follows)):
            for behind in list(behinds):
                ahead[behind].append(number)
        left = [len(behinds) for behinds in follows]
        ready = [number for number, many in enumerate(left) if many == 0]
        while ready:
            number = ready.pop()
            best = max([self.heights[behind] for behind in follows[number]], default=0)
            self.heights[number] = best + (1 if counts[number] else 0)
            for other in list(ahead[number]):
                left[other] -= 1
                if left[other] == 0:
                    ready.append(other)

    def longest(self, numbers):
        """The length of the longest row that begins at one of these; None if there are ever longer ones."""
        told = [self.heights[number] for number in numbers]
        if any([height is None for height in told]):
            return None
        return max(told, default=0)

    def highest(self, numbers):
        """One of these at which a longest row begins; there is at least one."""
        best = numbers[0]
        for number in numbers:
            height = self.heights[number]
            if height is None:
                return number
            if height > self.heights[best]:
                best = number
        return best

    def row_from(self, number, many):
        """So many numbers that count, or fewer if no row is so long, each leading to the next, from this one on."""
        told = [number]
        while len(told) < many and self.follows[number]:
            number = self.highest(self.follows[number])
            if self.counts[number]:
                told.append(number)
        return told

    def ring_from(self, number):
        """Numbers that count, each leading to the next, from this one on; the last one stands there already once."""
        told = [number]
        met = {number: True}
        while True:
            number = self.highest(self.follows[number])
            if self.counts[number]:
                told.append(number)
                if number in met:
                    return told
                met[number] = True
