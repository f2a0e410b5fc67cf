"""The forms of classes."""

from standsfor.forms import MOST_PARAMS, Place, is_block
from standsfor.names import is_name, is_name_dict, is_names

MOST_FIELDS = 3
MOST_WORDS = 4
MOST_METHODS = 5


def is_class(thing):
    """Whether it is a class, whatever classes it names."""
    return is_class_form(thing) and bad_method(thing, None) is None


def is_class_form(thing):
    """Whether it is a class, the blocks of its methods aside."""
    if not isinstance(thing, tuple) or len(thing) != 4:
        return False
    parent, mark, fields, methods = thing
    if parent is not None and not is_name(parent):
        return False
    return mark in ("open", "closed") and _is_fields(fields) and _is_methods(methods)


def bad_method(cls, new_classes):
    """The first method, by name, whose block may not stand there; None if there is none.

    New things are of the classes in new_classes, of any class if that is None.
    """
    parent, _, fields, methods = cls
    place = Place(new_classes, fields, True, parent is not None)
    for method in sorted(methods):
        if not is_block(methods[method][1], place):
            return method
    return None


def copied_class(cls):
    """The class with new dicts."""
    parent, mark, fields, methods = cls
    return (parent, mark, dict(fields), dict(methods))


def _is_fields(thing):
    if not is_name_dict(thing, MOST_FIELDS):
        return False
    return all([is_names(words, 1, MOST_WORDS) for words in thing.values()])


def _is_methods(thing):
    if not is_name_dict(thing, MOST_METHODS):
        return False
    return all([_is_method(method) for method in thing.values()])


def _is_method(thing):
    return isinstance(thing, tuple) and len(thing) == 2 and is_names(thing[0], 0, MOST_PARAMS)
