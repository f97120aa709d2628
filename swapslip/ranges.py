"""The numbers of one house: its range, and which of them are taken."""

from swapslip.errors import BadRange, NoNumber, NotTaken

MOST_NUMBER = 9999
MOST_ABOVE = 63


def is_range(low, high):
    return 1 <= low <= high <= low + MOST_ABOVE and high <= MOST_NUMBER


class Numbers:
    def __init__(self, low, high):
        if not is_range(low, high):
            raise BadRange()
        self.low = low
        self.high = high
        self.held = {}

    def take(self):
        """Take the least number that is free, and tell it."""
        for number in range(self.low, self.high + 1):
            if number not in self.held:
                self.held[number] = True
                return number
        raise NoNumber()

    def give(self, number):
        """Let a taken number be free again."""
        if number not in self.held:
            raise NotTaken(number)
        del self.held[number]

    def taken(self):
        return sorted(self.held)

    def left(self):
        return self.high - self.low + 1 - len(self.held)

    def has(self, number):
        return self.low <= number <= self.high

    def twin(self):
        new = Numbers(self.low, self.high)
        new.held = dict(self.held)
        return new
