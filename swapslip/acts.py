"""What a house does: when it heeds the web, at each letter, and when a tie is built or cut.

Each deed of a house ends with `go_on`, for a number may have come free by it.
"""

from swapslip.slips import joined, kill, let_go, make_slip, put_letter, withdraw
from swapslip.tunnels import drop_towards, drop_tunnels, lay_waiting, take_lay
from swapslip.ways import nexts


def aim(home, goal):
    """The pair (out, way) of the slip that the house lacks for a goal, None where it lacks none."""
    want = home.wants[goal]
    if want is None or (want, goal) not in home.news:
        return None
    number, path = home.news[(want, goal)]
    slip = home.live_slip(("goal", goal))
    # What came by this house itself would lead in a ring.
    if home.name in path or (slip is not None and slip.out == (want, number)):
        return None
    return (want, number), (home.name,) + path


def is_short(home):
    """Whether something here lacks a number; it is made as soon as there is one."""
    return bool(home.queue) or any([aim(home, goal) is not None for goal in range(len(home.wants))])


def try_goal(web, home, goal):
    if goal == home.name:
        return
    elder = home.live_slip(("goal", goal))
    if home.wants[goal] is not None:
        lead = aim(home, goal)
        if lead is None or not home.numbers.left():
            return
        make_told(web, home, goal, lead)
    # The elder one goes last, so that the house is never without a slip between the two.
    if elder is not None:
        withdraw(web, home, elder)


def make_told(web, home, goal, lead):
    """Make a slip for a goal, and tell it to all joined houses."""
    out, path = lead
    near = joined(web, home.name)
    slip = make_slip(web, home, ("goal", goal), out, path, near)
    for other in near:
        put_letter(web, home, other, ("tell", goal, slip.number, path))


def try_all(web, home):
    for goal in range(len(home.wants)):
        try_goal(web, home, goal)


def go_on(web, home):
    """Make what lacked a number, as long as one came free."""
    while home.freed:
        home.freed = False
        try_all(web, home)
        lay_waiting(web, home)


def look_about(web, home, whole):
    """Take the whole ties, as triples, for the house's view."""
    many = len(home.wants)
    home.sight = list(whole)
    home.wants = [nexts(many, whole, goal)[home.name] for goal in range(many)]
    try_all(web, home)
    go_on(web, home)


def take_letter(web, home, sender, letter):
    if letter[0] == "tell":
        word, goal, number, path = letter
        home.news[(sender, goal)] = (number, path)
        try_goal(web, home, goal)
    elif letter[0] == "void":
        take_void(web, home, (sender, letter[1]))
    elif letter[0] == "back":
        take_back(home, home.stands[letter[1]], sender)
    else:
        word, tunnel, number, path = letter
        take_lay(web, home, tunnel, path, (sender, number))
    go_on(web, home)


def take_back(home, slip, sender):
    del slip.told[sender]
    let_go(home, slip)


def take_void(web, home, gone):
    """All that leads from here to the gone pair (house, number) leads nowhere any more."""
    sender, number = gone
    home.news = {key: home.news[key] for key in home.news if (key[0], home.news[key][0]) != gone}
    put_letter(web, home, sender, ("back", number))
    lost = []
    for own in sorted(home.stands):
        slip = home.stands[own]
        if slip.out == gone and slip.mood != "dead":
            if slip.mood == "live" and slip.what[0] == "goal":
                lost.append(slip.what[1])
            kill(web, home, slip)
    drop_tunnels(web, home, lambda out: out == gone)
    for goal in sorted(lost):
        try_goal(web, home, goal)


def tell_slips(web, home, other):
    """Tell all live slips for goals to a house that is newly joined."""
    for goal in range(len(home.wants)):
        slip = home.live_slip(("goal", goal))
        if slip is not None:
            slip.told[other] = True
            put_letter(web, home, other, ("tell", goal, slip.number, slip.path))


def lose_house(web, home, other):
    """A house's own part of a cut: the other house is joined with it no more."""
    home.news = {key: home.news[key] for key in home.news if key[0] != other}
    for number in sorted(home.stands):
        lose_holder(web, home, home.stands[number], other)
    drop_tunnels(web, home, lambda out: out[0] == other)
    drop_towards(home, other)
    try_all(web, home)
    go_on(web, home)


def lose_holder(web, home, slip, other):
    """A slip's part of a cut."""
    if other in slip.told:
        del slip.told[other]
    if slip.mood != "dead" and slip.out is not None and slip.out[0] == other:
        kill(web, home, slip)
    else:
        let_go(home, slip)


def fell_tunnel(web, number):
    bore = web.bores[number]
    bore.felled = True
    home = web.homes[bore.path[-1]]
    slip = home.live_slip(("tunnel", number))
    if slip is not None:
        withdraw(web, home, slip)
    go_on(web, home)
