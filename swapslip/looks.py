"""Looking over: whether rows of slips are as they must be, and how each tie can be passed by."""

from swapslip.errors import Lone
from swapslip.tunnels import least_ready
from swapslip.ways import round_way
from swapslip.web import whole_ties


def own_fault(ranges, row):
    """The word for what is wrong with a row by itself, None where nothing is."""
    house, number, what, out, way, age, mood = row
    if not 0 <= house < len(ranges):
        return "range"
    low, high = ranges[house]
    if not low <= number <= high:
        return "range"
    if len(way) == 0 or way[0] != house or (what[0] == "goal" and way[-1] != what[1]):
        return "way"
    if mood != "dead" and (out is None) != (len(way) == 1):
        return "end"
    return None


def lead_fault(row, further):
    """The word for what is wrong with the row to which a row leads, None where nothing is."""
    if further is None:
        return "gone"
    if further[2] != row[2]:
        return "other"
    # A way may have been handed in as a list or as a tuple.
    if tuple(further[4]) != tuple(row[4])[1:]:
        return "rest"
    return None if further[5] < row[5] else "age"


def row_fault(ranges, rows, firsts, at):
    row = rows[at]
    if firsts[row[:2]] != at:
        return "twice"
    word = own_fault(ranges, row)
    out = row[3]
    if word is not None or row[6] == "dead" or out is None:
        return word
    return lead_fault(row, rows[firsts[out]] if out in firsts else None)


def audit(ranges, rows):
    """The first fault of rows of slips as (word, house, number), None where there is none."""
    # Where several rows have one house and number, the first one counts.
    firsts = {}
    for at, row in enumerate(rows):
        firsts.setdefault(row[:2], at)
    for at, row in enumerate(rows):
        word = row_fault(ranges, rows, firsts, at)
        if word is not None:
            return (word, row[0], row[1])
    return None


def cover_row(web, house, other):
    found = least_ready(web, house, other)
    number = None if found is None else found[0]
    try:
        price, way = round_way(web.many(), whole_ties(web), house, other)
    except Lone as gone:
        return (house, other, number, None, gone.lot)
    return (house, other, number, way, None)


def cover(web):
    """For each tie, either way about, how it can be passed by: (house, other, tunnel, way, lot)."""
    pairs = [tie[:2] for tie in web.ties()]
    both = sorted(pairs + [(other, one) for one, other in pairs])
    return [cover_row(web, house, other) for house, other in both]
