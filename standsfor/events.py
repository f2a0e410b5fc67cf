"""The events that a thing can show."""

from standsfor.names import is_integer, is_name

HIGHEST_NUMBER = 999999
# What stands behind the first word of each event.
FORMS = {
    "gives": ("value",),
    "throws": ("value",),
    "calls": ("number", "value", "value"),
    "asks": ("name", "value", "value"),
}


def is_event(thing):
    """Whether it is an event, with numbers that are not too high."""
    if not isinstance(thing, tuple) or len(thing) == 0 or not isinstance(thing[0], str):
        return False
    form = FORMS.get(thing[0])
    if form is None or len(thing) != 1 + len(form):
        return False
    return all([_is_part(kind, part) for kind, part in zip(form, thing[1:])])


def _is_part(kind, part):
    if kind == "number":
        return _is_number(part)
    return is_name(part) if kind == "name" else _is_value(part)


def _is_value(thing):
    if not isinstance(thing, tuple):
        return False
    if len(thing) == 2 and thing[0] == "word":
        return is_name(thing[1])
    if len(thing) == 2 and thing[0] == "other":
        return _is_number(thing[1])
    return thing in (("none",), ("me",))


def _is_number(thing):
    return is_integer(thing) and 0 <= thing <= HIGHEST_NUMBER
