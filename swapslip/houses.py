"""What one house has and knows."""

from swapslip.ranges import Numbers


class House:
    def __init__(self, name, low, high, many):
        self.name = name
        self.numbers = Numbers(low, high)
        # The view, as triples; beside it for each goal the next house by it, so that it is reckoned once.
        self.sight = []
        self.wants = [None] * many
        # Slips by their numbers.
        self.stands = {}
        # What was heard last, (number, way) by (other, goal).
        self.news = {}
        # Tunnels that wait here for a number, (tunnel, way, out) in the order in which their letters came.
        self.queue = []
        # Whether a number came free and the house has not yet gone on with what lacked one.
        self.freed = False

    def live_slip(self, what):
        """The live slip for a goal or a tunnel, or None."""
        for number in sorted(self.stands):
            slip = self.stands[number]
            if slip.what == what and slip.mood == "live":
                return slip
        return None

    def slip_rows(self):
        slips = [self.stands[number] for number in sorted(self.stands)]
        return [(self.name, slip.number, slip.what, slip.out, slip.path, slip.age, slip.mood) for slip in slips]

    def twin(self):
        new = House(self.name, self.numbers.low, self.numbers.high, len(self.wants))
        new.numbers = self.numbers.twin()
        new.sight = list(self.sight)
        new.wants = list(self.wants)
        new.stands = {number: self.stands[number].twin() for number in self.stands}
        new.news = {key: self.news[key] for key in self.news}
        new.queue = list(self.queue)
        return new
