"""The moves of a thing's surroundings, and the values that come in by them."""

from standsfor.names import is_name, is_names

VALUES = (("none",), ("able",), ("unable",))


def is_move(thing, words):
    """Whether it is a move with these words."""
    if not isinstance(thing, tuple) or len(thing) == 0:
        return False
    if thing[0] == "ask":
        return len(thing) == 4 and is_name(thing[1]) and _are_incoming(thing[2:], words)
    return thing[0] in ("give", "throw") and len(thing) == 2 and _are_incoming(thing[1:], words)


def are_words(thing, needed):
    """Whether it is a list or tuple of different words with all of these, with which a class can be played."""
    if not isinstance(thing, (list, tuple)) or not is_names(tuple(thing), 0, len(thing)):
        return False
    return all([word in thing for word in needed])


def incoming_values(words):
    """The list of all values that can come in with these words."""
    return [("word", word) for word in words] + list(VALUES)


def _are_incoming(things, words):
    return all([_is_incoming(thing, words) for thing in things])


def _is_incoming(thing, words):
    if not isinstance(thing, tuple):
        return False
    if len(thing) == 2 and thing[0] == "word":
        return is_name(thing[1]) and thing[1] in words
    return thing in VALUES
