"""The desk: a post that is spoken to in lines, and answers in lines."""

from swapslip.deeds import DEEDS
from swapslip.errors import SlipError
from swapslip.frames import send
from swapslip.letters import letter_text
from swapslip.texts import line_text, read_line, thing_text

# What can be said beside deeds: for each word what its things are, in their order.
ASKS = {
    "undo": (),
    "redo": (),
    "send": ("number", "number"),
    "slips": ("number",),
    "way": ("number", "number"),
    "letters": ("number", "number"),
}


def told_text(told):
    """What a deed tells: nothing, a number or a letter."""
    if told is None:
        return "done"
    return str(told) if isinstance(told, int) else letter_text(told)


def sent_text(end, steps):
    return line_text((*end, [house for house, numbers in steps]))


def slip_text(row):
    house, number, (kind, name), out, path, age, mood = row
    return f"{number}.{kind}{name}.{mood}"


def answer(post, asked):
    """What is answered to one of ASKS, read as its word and things."""
    word, *things = asked
    match word:
        case "undo":
            return told_text(post.undo())
        case "redo":
            return told_text(post.redo())
        case "send":
            web = post.web()
            end, steps = send(web, *things)
            return sent_text(end, steps)
        case "slips":
            return " ".join([slip_text(row) for row in post.web().slips(*things)])
        case "way":
            path = post.web().way(*things)
            return "none" if path is None else thing_text(path)
    return str(len(post.web().letters(*things)))


class Desk:
    def __init__(self, post):
        self.served = post

    def post(self):
        return self.served

    def say(self, line):
        """The answer to a line."""
        deed = read_line(dict(DEEDS), line)
        asked = read_line(dict(ASKS), line)
        try:
            if deed is not None:
                return told_text(self.served.do(deed))
            if asked is not None:
                return answer(self.served, asked)
        except SlipError as refused:
            return f"no {refused.word}"
        return "what"
