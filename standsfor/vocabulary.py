"""The words of the language, which are no names in texts."""

from standsfor.names import is_name

WORDS = (
    "none", "me", "new", "parent", "fn", "not", "and", "or", "end", "else", "catch", "then", "let", "set", "keep",
    "do", "print", "return", "raise", "if", "while", "try", "last", "class", "field", "method", "of",
)


def is_free_name(thing):
    """Whether it is a name that can stand in a text."""
    return is_name(thing) and thing not in WORDS
