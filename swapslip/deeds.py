"""Deeds as tuples: a word, and what the web's method of that name is handed."""

from swapslip.errors import BadDeed

# For each word what its things are, in their order.
DEEDS = {
    "build": ("number", "number", "number"),
    "cut": ("number", "number"),
    "snap": ("number", "number"),
    "mend": ("number", "number"),
    "charge": ("number", "number", "number"),
    "heed": ("number",),
    "deliver": ("number", "number"),
    "settle": (),
    "tunnel": ("way",),
    "fell": ("number",),
    "guard": ("number", "number"),
}


def own_deed(deed):
    """A deed as it is kept, a way in it as a tuple; BadDeed where it is none."""
    word, *things = deed
    if word not in DEEDS or len(things) != len(DEEDS[word]):
        raise BadDeed(word)
    kept = [tuple(thing) if form == "way" else thing for form, thing in zip(DEEDS[word], things)]
    return (word, *kept)


def perform(web, deed):
    """Do a kept deed at a web, and tell what it tells."""
    word, *things = deed
    match word:
        case "build":
            one, other, price = things
            return web.build(one, other, price=price)
        case "cut":
            return web.cut(*things)
        case "snap":
            return web.snap(*things)
        case "mend":
            return web.mend(*things)
        case "charge":
            one, other, price = things
            return web.charge(one, other, price=price)
        case "heed":
            return web.heed(*things)
        case "deliver":
            return web.deliver(*things)
        case "settle":
            return web.settle()
        case "tunnel":
            return web.tunnel(*things)
        case "fell":
            return web.fell(*things)
    return web.guard(*things)
