"""Plays: a thing of a plain class, and what its surroundings do with it, move by move."""

from standsfor.errors import BadMove, BadWords, NothingDone
from standsfor.moves import are_words, is_move
from standsfor.plain import words_of
from standsfor.standings import first_standing
from standsfor.within import Reading, after_answer, after_ask


class Play:
    """A thing of a plain class, the frames that wait, and the moves that were made."""

    def __init__(self, cls, words):
        if not are_words(words, words_of(cls)):
            raise BadWords(words)
        self._reading = Reading(cls)
        self._words = {word: True for word in words}
        self._standing = first_standing(cls)
        self._waiting = []
        self._events = []
        # What takes each move back: the standing ahead of it, the frame that it
        # went on with, and the one that waits since then (None if there is none).
        self._changes = []

    def __len__(self):
        return len(self._events)

    def standing(self):
        """The tuple of the words of the fields."""
        return self._standing

    def frames(self):
        """The list of the frames that wait, the last one last."""
        return list(self._waiting)

    def events(self):
        """The list of the events of all moves."""
        return list(self._events)

    def move(self, move):
        """Makes a move, and returns the event that comes of it."""
        if not is_move(move, self._words):
            raise BadMove(move)
        if move[0] == "ask":
            ended = None
            come = after_ask(self._reading, self._standing, move[1], move[2:])
        elif self._waiting:
            ended = self._waiting.pop()
            come = after_answer(self._reading, self._standing, ended, move[0], move[1])
        else:
            raise BadMove(move)
        event, standing, begun = come
        if begun is not None:
            self._waiting.append(begun)
        self._changes.append((self._standing, ended, begun))
        self._standing = standing
        self._events.append(event)
        return event

    def back(self):
        """Takes the last move back."""
        if not self._changes:
            raise NothingDone()
        standing, ended, begun = self._changes.pop()
        if begun is not None:
            self._waiting.pop()
        if ended is not None:
            self._waiting.append(ended)
        self._standing = standing
        self._events.pop()


def played(cls, words, moves):
    """The list of the events of a row of moves."""
    play = Play(cls, words)
    if not isinstance(moves, (list, tuple)):
        raise BadMove(moves)
    return [play.move(move) for move in moves]
