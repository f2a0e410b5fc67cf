"""Plain classes: those whose things hold words alone."""

from standsfor.blocks import has_right, has_test, sames_of, simples_of, statements_by_path
from standsfor.classes import is_class
from standsfor.errors import NotPlain
from standsfor.sureness import Sureness

MOST_THINGS = 2
MOST_ASKED = 5
MOST_WORDS = 5
STATEMENTS = ("let", "set", "keep", "do", "return", "raise", "if", "try", "last")
SIMPLES = ("word", "none", "name", "me", "field")
ME = ("me",)


def unplain(cls):
    """None for a plain class; otherwise the word that tells what it is not."""
    if not is_class(cls):
        return "class"
    parent, _, _, methods = cls
    if parent is not None:
        return "parent"
    if any([len(params) > MOST_THINGS for params, _ in methods.values()]):
        return "params"
    wrong = _wrong_statements(_statements(cls))
    if wrong is not None:
        return wrong
    asked = asked_by_method(methods)
    if _has_ring(asked):
        return "ring"
    if len(set([name for names in asked.values() for name in names])) > MOST_ASKED:
        return "asks"
    if len(_words(cls)) > MOST_WORDS:
        return "words"
    sure = all([Sureness(params, block).holds for params, block in methods.values()])
    return None if sure else "name"


def is_plain(thing):
    """Whether it is a plain class."""
    return unplain(thing) is None


def words_of(cls):
    """The ascending list of the words of a plain class."""
    if not is_plain(cls):
        raise NotPlain(cls)
    return _words(cls)


def methods_of(cls):
    """The ascending list of the names of the methods of a plain class."""
    if not is_plain(cls):
        raise NotPlain(cls)
    return sorted(cls[3])


def _statements(cls):
    """All statements of the methods, those of functions aside."""
    found = []
    for _, block in cls[3].values():
        found.extend(list(statements_by_path(block).values()))
    return found


def _wrong_statements(statements):
    """The word that tells which kind of part of them is not plain, or None."""
    if any([statement[0] not in STATEMENTS for statement in statements]):
        return "statement"
    if not all([_is_plain_right(statement[-1]) for statement in statements if has_right(statement)]):
        return "right"
    if not all([_is_plain_test(statement[1]) for statement in statements if has_test(statement)]):
        return "test"
    return None


def _is_plain_right(right):
    if right[0] == "call":
        return right[1][0] == "name" and _are_plain_things(right[2])
    if right[0] == "ask":
        return right[1] == ME and _are_plain_things(right[3])
    return right[0] in SIMPLES


def _are_plain_things(things):
    return len(things) <= MOST_THINGS and all([thing[0] in SIMPLES for thing in things])


def _is_plain_test(test):
    return all([_is_plain_same(one, other) for _, one, other in sames_of(test)])


def _is_plain_same(one, other):
    if one[0] not in SIMPLES or other[0] not in SIMPLES:
        return False
    return one[0] in ("word", "field") or other[0] in ("word", "field")


def asked_by_method(methods):
    """For each method the names of those that it asks of me."""
    asked = {}
    for method, (_, block) in methods.items():
        rights = [statement[-1] for statement in statements_by_path(block).values() if has_right(statement)]
        asked[method] = [right[2] for right in rights if right[0] == "ask"]
    return asked


def _has_ring(asked):
    """Whether a method has itself among those that it asks, that these ask, and so on."""
    for method in asked:
        seen = {}
        left = list(asked[method])
        while left:
            name = left.pop()
            if name not in seen:
                seen[name] = True
                left.extend(asked.get(name, []))
        if method in seen:
            return True
    return False


def _words(cls):
    words = [word for field in cls[2].values() for word in field]
    for statement in _statements(cls):
        words.extend([simple[1] for simple in simples_of(statement) if simple[0] == "word"])
    return sorted(set(words))
