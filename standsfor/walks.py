"""All parts of a block, whatever they stand in, and blocks with other names of classes.

The parts are of the kinds that standsfor.forms tells.
"""

from standsfor.forms import form_of

LEAVES = ("name", "field", "class", "params")


def inner_parts(kind, part):
    """The parts right within a part, as tuples (kind, part)."""
    if kind in LEAVES:
        return []
    if kind in ("block", "function"):
        return [("statement", statement) for statement in part]
    if kind == "things":
        return [("simple", thing) for thing in part]
    return list(zip(form_of(kind, part), part[1:]))


def parts_of(block):
    """The list of all parts of the block, those of functions too, as tuples (kind, part)."""
    found = []
    left = [("block", block)]
    while left:
        kind, part = left.pop()
        found.append((kind, part))
        left.extend(inner_parts(kind, part))
    return found


def with_other_classes(block, names):
    """The block with other names of classes: names tells by which ones they are replaced."""
    done = []
    # Behind a part come all parts within it, and then the part once more, with
    # the number of those parts, which then stand last in what is done.
    left = [("block", block, None)]
    while left:
        kind, part, many = left.pop()
        if many is not None:
            start = len(done) - many
            inner = tuple(done[start:])
            done = done[:start]
            done.append(inner if kind in ("block", "function", "things") else (part[0], *inner))
        elif kind in LEAVES:
            done.append(names.get(part, part) if kind == "class" else part)
        else:
            inner = inner_parts(kind, part)
            left.append((kind, part, len(inner)))
            left.extend([(inner_kind, thing, None) for inner_kind, thing in inner[::-1]])
    return done[0]
