"""The errors of the package."""

from standsfor.copies import copied


class StandError(ValueError):
    """What every error of the package stands under."""


class BadProgram(StandError):
    """What was passed is no program; part tells where."""

    def __init__(self, part):
        super().__init__("this is no program")
        self.part = copied(part)


class BadName(StandError):
    """This is no name, or none that is asked for here."""

    def __init__(self, name):
        super().__init__("this name cannot stand here")
        self.name = copied(name)


class BadNumber(StandError):
    """This is no integer, or one beyond the bounds."""

    def __init__(self, number):
        super().__init__("this is no integer within the bounds")
        self.number = copied(number)


class TooLong(StandError):
    """A run takes more steps, or more calls under way, than are allowed."""

    def __init__(self, most):
        super().__init__("the run is too long or too deep")
        self.most = copied(most)


class Ended(StandError):
    """The run has ended: there is no statement ahead."""

    def __init__(self):
        super().__init__("the run has ended")


class NothingDone(StandError):
    """There is nothing that could be taken back."""

    def __init__(self):
        super().__init__("nothing is done that could be taken back")


class NotPlain(StandError):
    """This is no plain class."""

    def __init__(self, cls):
        super().__init__("this is no plain class")
        self.cls = copied(cls)


class BadWords(StandError):
    """These are no words with which the class can be played."""

    def __init__(self, words):
        super().__init__("the class cannot be played with these words")
        self.words = copied(words)


class BadMove(StandError):
    """This is no move, or none that can be made now."""

    def __init__(self, move):
        super().__init__("this move cannot be made")
        self.move = copied(move)


class BadMark(StandError):
    """The mark of this class is not that of the other one."""

    def __init__(self, cls):
        super().__init__("the marks of the classes are unlike")
        self.cls = copied(cls)


class TooMany(StandError):
    """There is more to look at than is allowed."""

    def __init__(self, most):
        super().__init__("there is more to look at than is allowed")
        self.most = copied(most)


class NotAlike(StandError):
    """The classes are not alike; the moves tell them apart."""

    def __init__(self, moves):
        super().__init__("the classes are not alike")
        self.moves = copied(moves)


class BadEvent(StandError):
    """This is no event."""

    def __init__(self, event):
        super().__init__("this is no event")
        self.event = copied(event)


class NoText(StandError):
    """A program with this name cannot be written as a text."""

    def __init__(self, name):
        super().__init__("this name is a word of the language")
        self.name = copied(name)


class BadText(StandError):
    """The text is no program; line tells where."""

    def __init__(self, line):
        super().__init__("this text is no program")
        self.line = copied(line)
