"""Checks of arguments that many functions share."""

from standsfor.errors import BadMark, BadNumber, NotPlain
from standsfor.names import is_integer
from standsfor.plain import is_plain

HIGHEST_MOST = 100000


def check_most(most):
    """Raises BadNumber if this is no bound that can be passed."""
    if not is_integer(most) or not 1 <= most <= HIGHEST_MOST:
        raise BadNumber(most)


def check_plain(cls):
    """Raises NotPlain if this is no plain class."""
    if not is_plain(cls):
        raise NotPlain(cls)


def check_of_one_mark(one, other):
    """Raises NotPlain or BadMark if these are no plain classes of one mark."""
    check_plain(one)
    check_plain(other)
    if one[1] != other[1]:
        raise BadMark(other)
