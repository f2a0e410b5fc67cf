"""Programs: some classes and a body."""

from standsfor.classes import bad_method, copied_class, is_class_form
from standsfor.errors import BadName, BadProgram
from standsfor.forms import Place, is_block
from standsfor.names import is_name, is_name_dict

MOST_CLASSES = 8


class Program:
    """Classes by their names, and the body, which is a block."""

    def __init__(self, classes, body):
        part = _wrong_part(classes, body)
        if part is not None:
            raise BadProgram(part)
        self._classes = _copied_classes(classes)
        self.body = body

    @property
    def classes(self):
        """The classes by their names, in a new dict."""
        return _copied_classes(self._classes)

    def __eq__(self, other):
        return isinstance(other, Program) and self._classes == other._classes and self.body == other.body


def with_class(program, name, cls):
    """The program with this class under the name, new or in the place of the one there."""
    if not is_name(name):
        raise BadName(name)
    classes = program.classes
    classes[name] = cls
    return Program(classes, program.body)


def _copied_classes(classes):
    return {name: copied_class(cls) for name, cls in classes.items()}


def _wrong_part(classes, body):
    """The part that BadProgram tells; None if this is a program."""
    if not _is_classes(classes):
        return "classes"
    for name in sorted(classes):
        method = bad_method(classes[name], classes)
        if method is not None:
            return f"{name}.{method}"
    return None if is_block(body, Place(classes, {}, False, False)) else "body"


def _is_classes(thing):
    """Whether it is a dict of classes, the blocks of their methods aside."""
    if not is_name_dict(thing, MOST_CLASSES):
        return False
    if not all([is_class_form(cls) for cls in thing.values()]):
        return False
    return all([_has_parent_among(cls, thing) for cls in thing.values()]) and not _has_ring(thing)


def _has_parent_among(cls, classes):
    parent = cls[0]
    return parent is None or (parent in classes and classes[parent][1] == "open")


def _has_ring(classes):
    """Whether a class is above itself, if each parent is among the classes."""
    for name in classes:
        above = name
        for _ in range(len(classes)):
            if above is not None:
                above = classes[above][0]
        if above is not None:
            return True
    return False
