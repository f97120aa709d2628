"""Tunnels: how they are laid house by house, wait for numbers, and are ready no more."""

from swapslip.slips import joined, make_slip, put_letter


class Tunnel:
    def __init__(self, path):
        self.path = path
        # The pair to which a ready one leads.
        self.lead = None
        self.felled = False

    def twin(self):
        new = Tunnel(self.path)
        new.lead = self.lead
        new.felled = self.felled
        return new


def ahead_of(path, house):
    """The house ahead of a house on a tunnel's way; the house is not the first there."""
    return path[path.index(house) - 1]


def lies_on(path, one, other):
    """Whether the tie of two houses lies on a way."""
    steps = list(zip(path, path[1:]))
    return (one, other) in steps or (other, one) in steps


def lay_slip(web, home, number, path, out):
    """Make the house's slip for a tunnel, and send it to the house ahead."""
    ahead = ahead_of(path, home.name)
    rest = path[path.index(home.name):]
    slip = make_slip(web, home, ("tunnel", number), out, rest, [ahead])
    put_letter(web, home, ahead, ("lay", number, slip.number, path))


def take_lay(web, home, number, path, out):
    """What a house does at a letter `lay`; `out` is the sending house and the told number."""
    if path[0] == home.name:
        bore = web.bores[number]
        bore.lead = out
    elif ahead_of(path, home.name) in joined(web, home.name):
        home.queue.append((number, path, out))
        lay_waiting(web, home)


def lay_waiting(web, home):
    """Go on with the tunnels that wait at a house, as far as there are numbers."""
    while home.queue and home.numbers.left():
        number, path, out = home.queue.pop(0)
        lay_slip(web, home, number, path, out)


def drop_tunnels(web, home, is_gone):
    """Where what a tunnel leads to from this house is gone, it is ready no more, or waits here no more."""
    for number in sorted(web.bores):
        bore = web.bores[number]
        if bore.path[0] == home.name and bore.lead is not None and is_gone(bore.lead):
            bore.lead = None
    home.queue = [(number, path, out) for number, path, out in home.queue if not is_gone(out)]


def drop_towards(home, ahead):
    """What waits here to be sent on to a house that is joined no more waits no more."""
    home.queue = [(number, path, out) for number, path, out in home.queue if ahead_of(path, home.name) != ahead]


def least_ready(web, house, other):
    """The least-numbered tunnel that is ready from a house to another, as (number, lead), or None."""
    for number, path, lead in web.ready():
        if (path[0], path[-1]) == (house, other):
            return number, lead
    return None
