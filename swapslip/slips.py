"""Slips: how they are made, withdrawn and die, and the letters that tell of it.

The functions here take the web and one of its houses, the one that acts.
"""


class Slip:
    """What stands under a number at a house; only its mood and its holders ever change."""

    def __init__(self, number, what, out, path, age):
        self.number = number
        self.what = what
        self.out = out
        self.path = path
        self.age = age
        self.mood = "live"
        self.told = {}

    def twin(self):
        new = Slip(self.number, self.what, self.out, self.path, self.age)
        new.mood = self.mood
        new.told = dict(self.told)
        return new


def joined(web, house):
    """All houses that are joined with a house, by whole ties and by broken ones, rising."""
    return sorted([other for one, other in web.mail if one == house])


def put_letter(web, home, other, letter):
    web.mail[(home.name, other)].append(letter)


def put_voids(web, home, slip):
    for other in sorted(slip.told):
        put_letter(web, home, other, ("void", slip.number))


def make_slip(web, home, what, out, path, holders):
    """Make a live slip under the least free number; there must be one."""
    web.ever += 1
    slip = Slip(home.numbers.take(), what, out, path, web.ever)
    for holder in holders:
        slip.told[holder] = True
    home.stands[slip.number] = slip
    return slip


def let_go(home, slip):
    """Free the slip's number where nobody needs it any more."""
    if slip.mood != "live" and not slip.told:
        del home.stands[slip.number]
        home.numbers.give(slip.number)
        home.freed = True


def withdraw(web, home, slip):
    slip.mood = "old"
    put_voids(web, home, slip)
    let_go(home, slip)


def kill(web, home, slip):
    # The holders of an old one were sent their letters when it was withdrawn.
    if slip.mood == "live":
        put_voids(web, home, slip)
    slip.mood = "dead"
    let_go(home, slip)
