"""The standings of plain classes."""

from standsfor.checks import check_plain


def first_standing(cls):
    """The standing in which a new thing of a plain class is."""
    return standings(cls)[0]


def standings(cls):
    """The list of all standings of a plain class, ascending by the indexes of the words."""
    check_plain(cls)
    fields = cls[2]
    found = [()]
    for field in sorted(fields):
        found = [(*standing, word) for standing in found for word in fields[field]]
    return found
