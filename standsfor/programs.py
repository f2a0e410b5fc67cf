"""Programs: some classes and a body."""

from standsfor.errors import BadName, BadProgram
from standsfor.forms import MOST_PARAMS, Place, is_block
from standsfor.names import is_name, is_name_dict, is_names

MOST_CLASSES = 8
MOST_FIELDS = 3
MOST_WORDS = 4
MOST_METHODS = 5


class Program:
    """Classes by their names, and the body, which is a block."""

    def __init__(self, classes, body):
        part = _wrong_part(classes, body)
        if part is not None:
            raise BadProgram(part)
        self._classes = _copied_classes(classes)
        self.body = body

    @property
    def classes(self):
        """The classes by their names, in a new dict."""
        return _copied_classes(self._classes)

    def __eq__(self, other):
        return isinstance(other, Program) and self._classes == other._classes and self.body == other.body


def with_class(program, name, cls):
    """The program with this class under the name, new or in the place of the one there."""
    if not is_name(name):
        raise BadName(name)
    classes = program.classes
    classes[name] = cls
    return Program(classes, program.body)


def _copied_classes(classes):
    return {
        name: (parent, mark, dict(fields), dict(methods))
        for name, (parent, mark, fields, methods) in classes.items()
    }


def _wrong_part(classes, body):
    """The part that BadProgram tells; None if this is a program."""
    if not _is_classes(classes):
        return "classes"
    for name in sorted(classes):
        parent, _, fields, methods = classes[name]
        place = Place(classes, fields, True, parent is not None)
        for method in sorted(methods):
            if not is_block(methods[method][1], place):
                return f"{name}.{method}"
    return None if is_block(body, Place(classes, {}, False, False)) else "body"


def _is_classes(thing):
    """Whether it is a dict of classes, the blocks of their methods aside."""
    if not is_name_dict(thing, MOST_CLASSES):
        return False
    if not all([_is_class(cls) for cls in thing.values()]):
        return False
    return all([_has_parent_among(cls, thing) for cls in thing.values()]) and not _has_ring(thing)


def _is_class(thing):
    if not isinstance(thing, tuple) or len(thing) != 4:
        return False
    parent, mark, fields, methods = thing
    if parent is not None and not is_name(parent):
        return False
    return mark in ("open", "closed") and _is_fields(fields) and _is_methods(methods)


def _is_fields(thing):
    if not is_name_dict(thing, MOST_FIELDS):
        return False
    return all([is_names(words, 1, MOST_WORDS) for words in thing.values()])


def _is_methods(thing):
    if not is_name_dict(thing, MOST_METHODS):
        return False
    return all([_is_method(method) for method in thing.values()])


def _is_method(thing):
    return isinstance(thing, tuple) and len(thing) == 2 and is_names(thing[0], 0, MOST_PARAMS)


def _has_parent_among(cls, classes):
    parent = cls[0]
    return parent is None or (parent in classes and classes[parent][1] == "open")


def _has_ring(classes):
    """Whether a class is above itself, if each parent is among the classes."""
    for name in classes:
        above = name
        for _ in range(len(classes)):
            if above is not None:
                above = classes[above][0]
        if above is not None:
            return True
    return False
