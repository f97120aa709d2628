"""All refusals of the package.

Each stands straight under SlipError and none under another, so that a caller
who catches one catches no other one along with it.
"""


class SlipError(ValueError):
    def __init__(self, word="sliperror", why="refused"):
        # Handing on the text alone keeps lists that were handed in out of the error.
        ValueError.__init__(self, why)
        self.word = word


class BadRange(SlipError):
    def __init__(self):
        SlipError.__init__(self, "badrange", "this is no range of numbers")


class BadPrice(SlipError):
    def __init__(self):
        SlipError.__init__(self, "badprice", "a tie cannot have this price")


class BadWay(SlipError):
    def __init__(self):
        SlipError.__init__(self, "badway", "a tunnel cannot have this way")


class BadLetter(SlipError):
    def __init__(self):
        SlipError.__init__(self, "badletter", "this text is no letter")


class NoNumber(SlipError):
    def __init__(self):
        SlipError.__init__(self, "nonumber", "all numbers of the range are taken")


class HasTie(SlipError):
    def __init__(self):
        SlipError.__init__(self, "hastie", "these houses are joined already")


class Whole(SlipError):
    def __init__(self):
        SlipError.__init__(self, "whole", "the tie is whole")


class Broken(SlipError):
    def __init__(self):
        SlipError.__init__(self, "broken", "the tie is broken")


class NoLetter(SlipError):
    def __init__(self):
        SlipError.__init__(self, "noletter", "no letter waits there")


class Nothing(SlipError):
    def __init__(self):
        SlipError.__init__(self, "nothing", "there is no such step")


class TooMany(SlipError):
    def __init__(self, bound):
        SlipError.__init__(self, "toomany", f"the bound is {bound}")
        self.bound = bound


class NoHouse(SlipError):
    def __init__(self, house):
        SlipError.__init__(self, "nohouse", f"there is no house {house}")
        self.house = house


class NoTie(SlipError):
    def __init__(self, one, other):
        SlipError.__init__(self, "notie", f"no tie joins {one} and {other}")
        self.one = one
        self.other = other


class NotTaken(SlipError):
    def __init__(self, number):
        SlipError.__init__(self, "nottaken", f"the number {number} is not taken")
        self.number = number


class NoTunnel(SlipError):
    def __init__(self, number):
        SlipError.__init__(self, "notunnel", f"there is no tunnel {number}")
        self.number = number


class Short(SlipError):
    def __init__(self, house):
        SlipError.__init__(self, "short", f"house {house} has no number left")
        self.house = house


class NoWay(SlipError):
    def __init__(self, lot):
        SlipError.__init__(self, "noway", f"the start leads only to {lot}")
        self.lot = list(lot)


class Lone(SlipError):
    def __init__(self, lot):
        SlipError.__init__(self, "lone", f"without the tie the house leads only to {lot}")
        self.lot = list(lot)


class BadDeed(SlipError):
    def __init__(self, said):
        SlipError.__init__(self, "baddeed", f"this is no deed: {said}")
        self.said = said


class BadPage(SlipError):
    def __init__(self, row):
        SlipError.__init__(self, "badpage", f"line {row} of the page is wrong")
        self.row = row


class Stopped(SlipError):
    def __init__(self, at, kind):
        SlipError.__init__(self, "stopped", f"deed {at} was refused: {kind}")
        self.at = at
        self.kind = kind
