"""Pages: the deeds of a post as a text, from which it can be read again."""

from swapslip.deeds import DEEDS
from swapslip.errors import BadPage, BadRange, SlipError, TooMany
from swapslip.post import Post
from swapslip.texts import line_text, read_line, read_number


def deed_text(deed):
    return line_text(deed)


def page(post):
    """A line for the ranges and one for each deed that stands, a line feed behind each."""
    ranges = [f"{low}-{high}" for low, high in post.web().ranges()]
    lines = [" ".join(["post"] + ranges)] + [deed_text(deed) for deed in post.deeds()]
    return "".join([line + "\n" for line in lines])


def read_range(word):
    """The pair that a word writes, None where it writes none."""
    ends = [read_number(part) for part in word.split("-")]
    return None if len(ends) != 2 or None in ends else tuple(ends)


def read_first(line):
    """The post without steps that the first line of a page writes."""
    word, *parts = line.split(" ")
    ranges = [read_range(part) for part in parts]
    if word != "post" or None in ranges:
        raise BadPage(0)
    try:
        return Post(ranges)
    except (BadRange, TooMany):
        raise BadPage(0) from None


def do_line(post, row, line):
    """Do the deed that a line of a page writes; `row` is the place of the line."""
    deed = read_line(dict(DEEDS), line)
    if deed is None:
        raise BadPage(row)
    try:
        post.do(deed)
    except SlipError:
        raise BadPage(row) from None


def read_page(text):
    """The post that a page writes, with a step for each deed."""
    # What stands behind the last line feed is a line that lacks its own.
    *lines, rest = text.split("\n")
    if not lines:
        raise BadPage(0)
    post = read_first(lines[0])
    for row, line in enumerate(lines[1:], start=1):
        do_line(post, row, line)
    if rest:
        raise BadPage(len(lines))
    return post
