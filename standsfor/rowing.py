"""Programs that make a row of moves to a thing of the class "box", and print the last event.

Functions, and for an open class the methods of heirs, know by a name of the
body how many moves were made, and so which is the next. When the event of the
last one is printed, they do no more.
"""

from standsfor.classes import MOST_METHODS
from standsfor.forms import MOST_STATEMENTS
from standsfor.plain import asked_by_method, words_of
from standsfor.programs import Program

LETTERS = "abcdefghijklmnopqrstuvwxyz"
NONE = ("none",)
BOX = ("name", "box")
# What the name "now" has when nothing more is to be done.
OVER = ("word", "over")
ABLE = ("able",)
UNABLE = ("unable",)


class Rower:
    """Makes the program for a row of moves that tells these two classes apart."""

    def __init__(self, one, other, moves):
        self._one = one
        self._moves = moves
        self._asked = _asked_names([one, other])
        # The methods of the heirs, those that are asked from outside and those that are asked of itself.
        self._outer = sorted(set([move[1] for move in moves if move[0] == "ask"]))
        self._reach = _untaken("r", self._outer + self._asked)
        # The simple expressions for the able and unable values, by the index of
        # the move and the place in it.
        self._handed = {}
        # The names of the functions that are able values.
        self._functions = []
        words = words_of(one) + words_of(other)
        for index, move in enumerate(moves):
            for place in range(1, len(move)):
                if move[place] == ABLE:
                    self._functions.append(_letters("f", len(self._functions)))
                    self._handed[(index, place)] = ("name", self._functions[-1])
                elif move[place] == UNABLE:
                    words.append(_untaken("u", words))
                    self._handed[(index, place)] = ("word", words[-1])

    def program(self):
        """The program, with the one as the class "box"."""
        classes = {"box": self._one}
        if self._one[1] == "open":
            classes = {**classes, **self._heirs()}
        lets = [("let", "now", _count(0)), ("let", "box", ("new", list(classes)[-1]))]
        for name in self._functions:
            lets.append(("let", name, ("fn", ("a", "b"), _met(name))))
        lets.append(("let", "show", self._show()))
        lets.append(("let", "told", self._told()))
        lets.append(("let", "act", self._act()))
        lets.append(("do", _call("act")))
        return Program(classes, _packed(lets))

    def _heirs(self):
        """The heirs of an open box, the last one the heir of all: all that it asks of itself is told."""
        methods = [(self._reach, (("m", "a", "b"), self._reach_block()))]
        for index, name in enumerate(self._asked):
            methods.append((name, (("a", "b"), _met(_letters("m", index)))))
        heirs = {}
        above = "box"
        for start in range(0, len(methods), MOST_METHODS):
            name = _letters("h", len(heirs))
            heirs[name] = (above, "open", {}, dict(methods[start:start + MOST_METHODS]))
            above = name
        return heirs

    def _reach_block(self):
        """Asks for a method that the box itself has, also where an heir has one of its name."""
        things = (("name", "a"), ("name", "b"))
        return tuple([
            _when(("name", "m"), ("word", name), (("return", ("parent", name, things)),))
            for name in self._outer
        ])

    def _show(self):
        """The function that prints a value that the box hands out, each one in another way."""
        value = ("name", "x")
        shown = [
            _when(value, NONE, (("print", ("word", "none")), ("return", NONE))),
            _when(value, BOX, (("print", ("word", "me")), ("return", NONE))),
        ]
        for name in self._functions:
            shown.append(_when(value, ("name", name), (("print", ("word", name)), ("return", NONE))))
        return ("fn", ("x",), _packed(shown + [("print", ("word", "word")), ("print", value)]))

    def _told(self):
        """The function that prints an event, if it is that of the last move."""
        shown = (
            ("print", ("name", "kind")),
            ("do", _call("show", ("name", "a"))),
            ("do", _call("show", ("name", "b"))),
            ("set", "now", OVER),
        )
        return ("fn", ("kind", "a", "b"), (_when(("name", "now"), _count(len(self._moves)), shown),))

    def _act(self):
        """The function that makes the moves that are next, up to one that goes back."""
        steps = []
        for index in range(len(self._moves)):
            step = (("set", "now", _count(index + 1)), self._step(index))
            steps.append(_when(("name", "now"), _count(index), step))
        return ("fn", (), (("while", ("not", ("same", ("name", "now"), OVER)), _packed(steps)),))

    def _step(self, index):
        move = self._moves[index]
        if move[0] == "give":
            return ("return", self._value(index, 1))
        if move[0] == "throw":
            return ("raise", self._value(index, 1))
        things = (self._value(index, 2), self._value(index, 3))
        if self._one[1] == "open":
            asked = ("ask", BOX, self._reach, (("word", move[1]), *things))
        else:
            asked = ("ask", BOX, move[1], things)
        gives = ("do", _call("told", ("word", "gives"), ("name", "r")))
        throws = ("do", _call("told", ("word", "throws"), ("name", "r")))
        return ("try", (("let", "r", asked), gives), "r", (throws,))

    def _value(self, index, place):
        """The simple expression for an incoming value of a move."""
        return self._handed.get((index, place), self._moves[index][place])


def _asked_names(classes):
    """The ascending list of the names of the methods that the classes ask of themselves."""
    asked = [names for cls in classes for names in asked_by_method(cls[3]).values()]
    return sorted(set([name for names in asked for name in names]))


def _met(kind):
    """What is done by what the box calls, or asks: the event is told, then it is acted."""
    told = _call("told", ("word", kind), ("name", "a"), ("name", "b"))
    return (("do", told), ("return", _call("act")))


def _call(name, *things):
    return ("call", ("name", name), things)


def _when(one, other, block):
    return ("if", ("same", one, other), block, ())


def _count(number):
    """The word for a number of moves."""
    return ("word", _letters("n", number))


def _letters(first, number):
    return first + LETTERS[number // len(LETTERS)] + LETTERS[number % len(LETTERS)]


def _untaken(first, taken):
    """A name that is none of those that are taken."""
    number = 0
    while _letters(first, number) in taken:
        number += 1
    return _letters(first, number)


def _packed(statements):
    """A block that does all these statements, in blocks within it where they are many."""
    block = tuple(statements)
    while len(block) > MOST_STATEMENTS:
        parts = [block[start:start + MOST_STATEMENTS] for start in range(0, len(block), MOST_STATEMENTS)]
        block = tuple([_when(NONE, NONE, part) for part in parts])
    return block
