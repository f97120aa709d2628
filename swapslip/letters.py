"""Letters as texts: a letter is a tuple of its word and its things."""

from swapslip.errors import BadLetter
from swapslip.texts import line_text, read_line

# For each word what its things are, in their order.
FORMS = {
    "tell": ("number", "number", "way"),
    "void": ("number",),
    "back": ("number",),
    "lay": ("number", "number", "way"),
}


def letter_text(letter):
    return line_text(letter)


def read_letter(text):
    """The letter that a text writes; BadLetter where it is not written just so."""
    letter = read_line(dict(FORMS), text)
    if letter is None:
        raise BadLetter()
    return letter
