"""What stands in a line of a text."""

from standsfor.forms import MOST_PARAMS, MOST_TESTS, MOST_THINGS
from standsfor.names import is_name
from standsfor.vocabulary import WORDS, is_free_name

# Where what is read is nothing; then the line is not good.
NOTHING = ("none",)


class Scan:
    """Reads a line, or what stands behind its first blanks, from the left to the right.

    If something is not as it has to be, the line is not good; what is read of
    it then means nothing. Functions are read as ("fn", number).
    """

    def __init__(self, text, many):
        self._text = text
        self._reached = 0
        self._is_good = True
        # How many functions stand ahead of the line, and those that stand in it.
        self._many = many
        self.numbers = []

    def is_done(self):
        """Whether the line is good, and nothing is left of it."""
        return self._is_good and self._reached == len(self._text)

    def skips(self, text):
        """Whether this text comes next; it is skipped then."""
        behind = self._reached + len(text)
        if self._text[self._reached:behind] != text:
            return False
        self._reached = behind
        return True

    def need(self, text):
        """Skips this text, which has to come next."""
        if not self.skips(text):
            self._is_good = False

    def free_name(self):
        """A name that is no word of the language."""
        name = self._letters()
        if not is_free_name(name):
            self._is_good = False
        return name

    def some_params(self):
        """A tuple of params, with a blank ahead of each."""
        found = []
        while self.skips(" "):
            found.append(self.free_name())
        if len(found) > MOST_PARAMS:
            self._is_good = False
        return tuple(found)

    def some_words(self):
        """A tuple of words, with a blank ahead of each."""
        found = []
        while self.skips(" "):
            found.append(self._word())
        return tuple(found)

    def digits(self):
        """The digits that come next, as a string."""
        start = self._reached
        while self._next().isdigit():
            self._reached += 1
        return self._text[start:self._reached]

    def statement(self):
        """A statement, without its blocks and what stands between them."""
        for kind in ("try", "last"):
            if self._text == kind:
                self.need(kind)
                return (kind,)
        kind = self._letters()
        self.need(" ")
        if kind in ("if", "while"):
            return (kind, self._test(1))
        if kind == "print":
            return (kind, self._simple())
        if kind in ("do", "return", "raise"):
            return (kind, self._right())
        if kind not in ("let", "set", "keep"):
            self._is_good = False
            return (kind,)
        name = self.free_name()
        self.need(" ")
        return (kind, name, self._right())

    def _next(self):
        """The sign that comes next, "" at the end."""
        return self._text[self._reached:self._reached + 1]

    def _letters(self):
        start = self._reached
        while "a" <= self._next() <= "z":
            self._reached += 1
        return self._text[start:self._reached]

    def _word(self):
        word = self._letters()
        if not is_name(word):
            self._is_good = False
        return word

    def _test(self, deep):
        if deep > MOST_TESTS:
            self._is_good = False
            return NOTHING
        if self.skips("not ("):
            test = ("not", self._test(deep + 1))
            self.need(")")
            return test
        if not self.skips("("):
            one = self._simple()
            self.need(" = ")
            return ("same", one, self._simple())
        one = self._test(deep + 1)
        kind = "both" if self.skips(" and ") else "either"
        if kind == "either":
            self.need(" or ")
        test = (kind, one, self._test(deep + 1))
        self.need(")")
        return test

    def _right(self):
        if self.skips("parent!"):
            method = self.free_name()
            return ("parent", method, self._things())
        simple = self._simple()
        if self.skips("!"):
            method = self.free_name()
            return ("ask", simple, method, self._things())
        return ("call", simple, self._things()) if self._next() == "(" else simple

    def _things(self):
        self.need("(")
        if self.skips(")"):
            return ()
        found = [self._simple()]
        while self.skips(", "):
            found.append(self._simple())
        self.need(")")
        if len(found) > MOST_THINGS:
            self._is_good = False
        return tuple(found)

    def _simple(self):
        if self.skips("'"):
            return ("word", self._word())
        if self.skips("."):
            return ("field", self.free_name())
        word = self._letters()
        if word in ("none", "me"):
            return (word,)
        if word == "new":
            self.need(" ")
            return ("new", self.free_name())
        if word == "fn":
            self.need(" ")
            return self._function()
        if word in WORDS or not is_name(word):
            self._is_good = False
        return ("name", word)

    def _function(self):
        """A function, which has to have the next number."""
        number = self._many + len(self.numbers)
        if self.digits() != str(number):
            self._is_good = False
        self.numbers.append(number)
        return ("fn", number)
