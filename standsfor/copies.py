"""Copies of values, so that no object shares a list or a dict with its callers."""

MOST_PARTS = 100000


def copied(value):
    """The value, with a copy in the place of each list and dict in it."""
    # A value that holds one part in many places can be far larger, part by part,
    # than what it takes to hold it: such a one is kept as it is.
    return _copy(value) if _has_few_parts(value) else value


def _copy(value):
    if isinstance(value, list):
        return [_copy(part) for part in value]
    if isinstance(value, tuple):
        return tuple([_copy(part) for part in value])
    if isinstance(value, dict):
        return {key: _copy(part) for key, part in value.items()}
    return value


def _has_few_parts(value):
    seen = 0
    left = [value]
    while left and seen <= MOST_PARTS:
        part = left.pop()
        seen += 1
        if isinstance(part, dict):
            left.extend(list(part.values()))
        elif isinstance(part, (list, tuple)):
            left.extend(list(part))
    return seen <= MOST_PARTS
