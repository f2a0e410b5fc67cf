"""The forms of expressions, tests, statements and blocks."""

from standsfor.names import is_name, is_names

MOST_STATEMENTS = 12
MOST_BLOCKS = 8
MOST_TESTS = 3
MOST_THINGS = 3
MOST_PARAMS = 3

# Each form is told by its first word; behind it stand parts of these kinds.
SIMPLES = {
    "word": ("name",),
    "none": (),
    "name": ("name",),
    "me": (),
    "field": ("field",),
    "fn": ("params", "function"),
    "new": ("class",),
}
CALLS = {
    "call": ("simple", "things"),
    "ask": ("simple", "name", "things"),
    "parent": ("name", "things"),
}
TESTS = {
    "same": ("simple", "simple"),
    "not": ("test",),
    "both": ("test", "test"),
    "either": ("test", "test"),
}
STATEMENTS = {
    "let": ("name", "right"),
    "set": ("name", "right"),
    "keep": ("field", "right"),
    "do": ("right",),
    "print": ("simple",),
    "return": ("right",),
    "raise": ("right",),
    "if": ("test", "block", "block"),
    "while": ("test", "block"),
    "try": ("block", "name", "block"),
    "last": ("block", "block"),
}


class Place:
    """Where an outermost block stands: what its text may name."""

    def __init__(self, new_classes, own_fields, in_method, has_parent):
        # None if new things may be of any class.
        self.new_classes = new_classes
        self.own_fields = own_fields
        self.in_method = in_method
        self.has_parent = has_parent


def is_block(thing, place):
    """Whether it is a block that may stand as an outermost one at this place."""
    # A spot is how deep the block stands, whether a return may stand there,
    # and in how many tests; the parts wait in a list, as blocks can be deep.
    left = [("block", thing, (0, place.in_method, 0))]
    while left:
        kind, part, spot = left.pop()
        inner = _inner_parts(kind, part, spot, place)
        if inner is None:
            return False
        left.extend(inner)
    return True


def _inner_parts(kind, part, spot, place):
    """The parts right within this one; None if it is not of this kind."""
    if kind in ("name", "field", "class", "params"):
        return [] if _is_leaf(kind, part, place) else None
    if not isinstance(part, tuple):
        return None
    if kind == "block":
        return _statements(part, spot)
    if kind == "function":
        return _statements(part, (spot[0], True, 0))
    if kind == "things":
        return None if len(part) > MOST_THINGS else [("simple", thing, spot) for thing in part]
    return _form_parts(kind, part, spot, place)


def _is_leaf(kind, part, place):
    if kind == "params":
        return is_names(part, 0, MOST_PARAMS)
    if not is_name(part):
        return False
    if kind == "field":
        return part in place.own_fields
    return kind == "name" or place.new_classes is None or part in place.new_classes


def _statements(block, spot):
    deep, returns, _ = spot
    if deep == MOST_BLOCKS or len(block) > MOST_STATEMENTS:
        return None
    return [("statement", statement, (deep + 1, returns, 0)) for statement in block]


def _form_parts(kind, part, spot, place):
    deep, returns, tests = spot
    if kind == "test":
        tests += 1
    form = form_of(kind, part)
    if form is None or len(part) != 1 + len(form) or tests > MOST_TESTS:
        return None
    if not _may_stand(part[0], returns, place):
        return None
    return [(inner, thing, (deep, returns, tests)) for inner, thing in zip(form, part[1:])]


def form_of(kind, part):
    """The kinds of what stands behind the first word of a tuple; None if that is none of this kind."""
    if len(part) == 0 or not isinstance(part[0], str):
        return None
    if kind == "statement":
        return STATEMENTS.get(part[0])
    if kind == "test":
        return TESTS.get(part[0])
    if kind == "right" and part[0] in CALLS:
        return CALLS[part[0]]
    return SIMPLES.get(part[0])


def _may_stand(word, returns, place):
    if word == "me":
        return place.in_method
    if word == "parent":
        return place.has_parent
    return returns if word == "return" else True
