"""Numbers and ways as they are written in letters, pages and lines, and words with such things."""

MOST_FIGURES = 6


def read_number(word):
    """The number that a word writes, None where it writes none."""
    if not (word.isascii() and word.isdigit()) or len(word) > MOST_FIGURES:
        return None
    if word[0] == "0" and word != "0":
        return None
    return int(word)


def read_way(word):
    """The tuple of houses that a word writes with points between, None where it writes none."""
    houses = [read_number(part) for part in word.split(".")]
    return None if None in houses else tuple(houses)


def read_thing(form, part):
    return read_way(part) if form == "way" else read_number(part)


def read_line(forms, line):
    """The tuple of a word and its things that a line writes, None where it writes none.

    `forms` tells for each word what its things are: numbers or ways.
    """
    word, *parts = line.split(" ")
    if word not in forms or len(parts) != len(forms[word]):
        return None
    things = [read_thing(form, part) for form, part in zip(forms[word], parts)]
    return None if None in things else (word, *things)


def thing_text(thing):
    """A number, or a way with points between."""
    if isinstance(thing, int):
        return str(thing)
    return ".".join([str(house) for house in thing])


def line_text(parts):
    """A word and its things, a blank between."""
    word, *things = parts
    return " ".join([word] + [thing_text(thing) for thing in things])
