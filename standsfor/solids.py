"""Values that are looked up: those made of strings, integers and tuples alone."""

from standsfor.names import is_integer


def is_solid(thing, deep):
    """Whether it is made of strings, integers and tuples, nested at most so many deep."""
    # Flags are left out as they are equal to integers, and deep tuples as no key.
    if isinstance(thing, tuple):
        return deep > 0 and all([is_solid(part, deep - 1) for part in thing])
    return isinstance(thing, str) or is_integer(thing)
