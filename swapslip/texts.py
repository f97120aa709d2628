"""Numbers and ways as they are written in letters, pages and lines."""

MOST_FIGURES = 6


def read_number(word):
    """The number that a word writes, None where it writes none."""
    if not (word.isascii() and word.isdigit()) or len(word) > MOST_FIGURES:
        return None
    if word[0] == "0" and word != "0":
        return None
    return int(word)


def read_way(word):
    """The tuple of houses that a word writes with points between, None where it writes none."""
    houses = [read_number(part) for part in word.split(".")]
    return None if None in houses else tuple(houses)


def thing_text(thing):
    """A number, or a way with points between."""
    if isinstance(thing, int):
        return str(thing)
    return ".".join([str(house) for house in thing])
