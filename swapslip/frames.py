"""Frames: how one is led from house to house by its numbers, and where it ends."""

from swapslip.tunnels import least_ready


def send(web, house, goal):
    """The pair (end, steps) of a frame from a house to a goal."""
    number = web.live(house, goal)
    if house == goal:
        return ("came", goal), [(house, ())]
    if number is None:
        return ("slip", house), [(house, ())]
    return go_along(web, house, (number,))


def go_along(web, house, numbers):
    steps = [(house, numbers)]
    end = None
    while end is None:
        end, step = next_step(web, house, numbers)
        if end is None:
            house, numbers = step
            steps.append(step)
    return end, steps


def next_step(web, house, numbers):
    """The pair (end, None) where the frame ends at this house, else (None, its next step)."""
    slips = {row[1]: row for row in web.slips(house)}
    while numbers:
        number, what, out, way, age, mood = slips[numbers[-1]][1:]
        if mood == "dead":
            return ("dead", house), None
        if out is not None:
            return cross(web, house, numbers, out)
        numbers = numbers[:-1]
    return ("came", house), None


def is_whole(web, one, other):
    return (min(one, other), max(one, other)) in [tie[:2] for tie in web.ties() if tie[3]]


def cross(web, house, numbers, out):
    """Go over the tie to which the last number leads, or round it where it is broken."""
    other, number = out
    below = numbers[:-1] + (number,)
    if is_whole(web, house, other):
        return None, (other, below)
    found = least_ready(web, house, other)
    if len(numbers) > 1 or found is None or not is_whole(web, house, found[1][0]):
        return ("broken", house, other), None
    near, upper = found[1]
    return None, (near, below + (upper,))
