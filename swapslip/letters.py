"""Letters as texts: a letter is a tuple of its word and its things."""

from swapslip.errors import BadLetter
from swapslip.texts import read_number, read_way, thing_text

# For each word what its things are, in their order.
FORMS = {
    "tell": ("number", "number", "way"),
    "void": ("number",),
    "back": ("number",),
    "lay": ("number", "number", "way"),
}


def letter_text(letter):
    word, *things = letter
    return " ".join([word] + [thing_text(thing) for thing in things])


def read_thing(form, part):
    return read_way(part) if form == "way" else read_number(part)


def read_letter(text):
    """The letter that a text writes; BadLetter where it is not written just so."""
    word, *parts = text.split(" ")
    if word not in FORMS or len(parts) != len(FORMS[word]):
        raise BadLetter()
    things = [read_thing(form, part) for form, part in zip(FORMS[word], parts)]
    if None in things:
        raise BadLetter()
    return (word, *things)
