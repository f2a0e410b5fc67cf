"""Integers, names and words."""

MOST_LETTERS = 8


def is_integer(thing):
    """Whether it is an int that is not a bool."""
    return isinstance(thing, int) and not isinstance(thing, bool)


def is_name(thing):
    """Whether it is a name, which a word is likewise: 1 to 8 letters a to z."""
    if not isinstance(thing, str) or len(thing) > MOST_LETTERS:
        return False
    return thing.isascii() and thing.isalpha() and thing.islower()


def is_names(thing, least, most):
    """Whether it is a tuple of least to most names, all of them different."""
    if not isinstance(thing, tuple) or not least <= len(thing) <= most:
        return False
    return all([is_name(part) for part in thing]) and len(set(thing)) == len(thing)


def is_name_dict(thing, most):
    """Whether it is a dict with at most so many keys, all of them names."""
    if not isinstance(thing, dict) or len(thing) > most:
        return False
    return all([is_name(key) for key in thing])
