"""Deeds as data: the name of a method of a desk, and its arguments in order."""

from lastingshares.errors import BadDeed
from lastingshares.numbers import is_list

ARGUMENTS = {"weigh": 3, "speed": 2, "turn": 0, "narrow": 4, "ask": 2, "forget": 0, "settle": 1, "watch": 1}


def deed_list(thing):
    """Returns the deeds of a deed list as a list."""
    if not is_list(thing):
        raise BadDeed(-1)
    for place, deed in enumerate(thing):
        if not is_deed(deed):
            raise BadDeed(place)
    return list(thing)


def is_deed(thing):
    """Returns True if the argument is a list or tuple of the name of a deed and as many arguments as it takes."""
    if not is_list(thing) or len(thing) == 0 or not isinstance(thing[0], str):
        return False
    return thing[0] in ARGUMENTS and len(thing) == ARGUMENTS[thing[0]] + 1


def do_deed(desk, deed):
    """Does the deed at the desk."""
    name, *rest = deed
    if name == "weigh":
        desk.weigh(*rest)
    elif name == "speed":
        desk.speed(*rest)
    elif name == "turn":
        desk.turn()
    elif name == "narrow":
        desk.narrow(*rest)
    elif name == "ask":
        desk.ask(*rest)
    elif name == "forget":
        desk.forget()
    elif name == "settle":
        desk.settle(*rest)
    else:
        desk.watch(*rest)
