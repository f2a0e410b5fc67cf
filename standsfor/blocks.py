"""The statements of blocks, and what stands in a statement."""

from standsfor.forms import CALLS

# At which items of a statement its blocks stand; all others have no blocks.
INNER_BLOCKS = {"if": (2, 3), "while": (2,), "try": (1, 3), "last": (1, 2)}


def blocks_of(statement):
    """The blocks right within the statement, each at its number; those of functions aside."""
    return [statement[at] for at in INNER_BLOCKS.get(statement[0], ())]


def statements_by_path(block):
    """All statements of the block, the inner ones too, by their paths.

    A path is the index in the block, then, for each block around the statement,
    the number of that block in its statement, and the index there.
    """
    found = {}
    left = [((), block)]
    while left:
        start, inner = left.pop()
        for index, statement in enumerate(inner):
            path = (*start, index)
            found[path] = statement
            left.extend([((*path, number), part) for number, part in enumerate(blocks_of(statement))])
    return found


def has_test(statement):
    """Whether it is a statement with a test."""
    return statement[0] in ("if", "while")


def has_right(statement):
    """Whether it is a statement with a right side, or with a simple expression in its place."""
    return statement[0] not in INNER_BLOCKS


def simples_of(statement):
    """The simple expressions in the test or the right side of the statement."""
    if has_test(statement):
        return [side for same in sames_of(statement[1]) for side in same[1:]]
    if not has_right(statement):
        return []
    right = statement[-1]
    if right[0] not in CALLS:
        return [right]
    called = [] if right[0] == "parent" else [right[1]]
    return called + list(right[-1])


def sames_of(test):
    """All the "same" in a test."""
    found = []
    left = [test]
    while left:
        part = left.pop()
        if part[0] == "same":
            found.append(part)
        else:
            left.extend(list(part[1:]))
    return found
