"""Programs out of texts."""

from standsfor.errors import BadText
from standsfor.forms import MOST_BLOCKS
from standsfor.programs import Program
from standsfor.scanning import Scan

# The blocks behind which an end may stand.
ENDED = ("if", "else", "while", "catch", "then", "fn", "method")


class Spot:
    """A block that is being read.

    Its kind is the word of the line that opened it; head is what is known of
    that of which it is a block, ahead of this block.
    """

    def __init__(self, kind, head, blanks, deep):
        self.kind = kind
        self.head = head
        # How many blanks stand ahead of the line that opened it.
        self.blanks = blanks
        self.deep = deep
        self.statements = []
        # The line that was read last, as long as functions in it are to be
        # read, and their numbers.
        self.held = None
        self.lacking = []


class Reader:
    """Reads a program line by line."""

    def __init__(self):
        # By name: the parent, the mark, the fields and the methods.
        self.done_classes = {}
        # The names of the class, the field and the method that were read last,
        # "" where there is none (of this class).
        self._class = ""
        self._field = ""
        self._method = ""
        # The blocks that are being read, the innermost one last.
        self._spots = []
        self._functions = {}
        # How many functions stood in the lines up to here.
        self._many = 0

    def takes(self, line):
        """Whether this line can stand here; it is taken then."""
        if not self._spots:
            return self._takes_outer(line)
        spot = self._spots[-1]
        text = line.lstrip(" ")
        blanks = len(line) - len(text)
        if spot.lacking:
            return blanks == spot.blanks + 2 and self._opens_function(text, spot)
        if blanks == spot.blanks + 2:
            return self._takes_statement(text, spot)
        return blanks == spot.blanks and self._leaves(text, spot)

    def is_whole(self):
        """Whether nothing is lacking."""
        return len(self._spots) == 1 and self._spots[0].kind == "body" and not self._spots[0].lacking

    def done_body(self):
        """The body that was read."""
        return tuple(self._spots[0].statements)

    def _takes_outer(self, line):
        """Takes a line outside of blocks: of a class, a field, a method, or the body."""
        if line == "body":
            self._spots.append(Spot("body", (), 0, 1))
            return True
        scan = Scan(line, 0)
        if scan.skips("class "):
            return self._opens_class(scan)
        if self._class == "":
            return False
        if scan.skips("  field "):
            return self._takes_field(scan)
        scan.need("  method ")
        return self._opens_method(scan)

    def _opens_class(self, scan):
        name = scan.free_name()
        parent = None
        mark = "open" if scan.skips(" open") else "closed"
        if mark == "closed":
            scan.need(" closed")
        if scan.skips(" of "):
            parent = scan.free_name()
        if not scan.is_done() or name <= self._class:
            return False
        self.done_classes[name] = (parent, mark, {}, {})
        self._class = name
        self._field = ""
        self._method = ""
        return True

    def _takes_field(self, scan):
        name = scan.free_name()
        words = scan.some_words()
        if not scan.is_done() or self._method != "" or name <= self._field:
            return False
        self.done_classes[self._class][2][name] = words
        self._field = name
        return True

    def _opens_method(self, scan):
        name = scan.free_name()
        params = scan.some_params()
        if not scan.is_done() or name <= self._method:
            return False
        self._method = name
        self._spots.append(Spot("method", (name, params), 2, 1))
        return True

    def _takes_statement(self, text, spot):
        scan = Scan(text, self._many)
        head = scan.statement()
        opens = head[0] in ("if", "while", "try", "last") or len(scan.numbers) > 0
        if not scan.is_done() or opens and spot.deep == MOST_BLOCKS:
            return False
        self._many += len(scan.numbers)
        spot.held = head
        spot.lacking = scan.numbers
        self._go_on(spot)
        return True

    def _go_on(self, spot):
        """Goes on behind a line, if no function in it is to be read any more."""
        if spot.lacking:
            return
        head = _filled(spot.held, self._functions)
        if head[0] in ("if", "while", "try", "last"):
            self._spots.append(Spot(head[0], head, spot.blanks + 2, spot.deep + 1))
        else:
            spot.statements.append(head)

    def _opens_function(self, text, spot):
        scan = Scan(text, 0)
        scan.need("fn ")
        number = scan.digits()
        params = scan.some_params()
        if not scan.is_done() or number != str(spot.lacking[0]):
            return False
        self._spots.append(Spot("fn", params, spot.blanks + 2, spot.deep + 1))
        return True

    def _leaves(self, text, spot):
        """Takes a line that ends a block."""
        block = tuple(spot.statements)
        if text == "end":
            if spot.kind not in ENDED or spot.kind == "else" and not block:
                return False
            self._spots.pop()
            self._end(spot, block)
            return True
        scan = Scan(text, 0)
        if text == "else" and spot.kind == "if":
            self._spots[-1] = Spot("else", (*spot.head, block), spot.blanks, spot.deep)
            return True
        if text == "then" and spot.kind == "last":
            self._spots[-1] = Spot("then", (*spot.head, block), spot.blanks, spot.deep)
            return True
        scan.need("catch ")
        name = scan.free_name()
        if not scan.is_done() or spot.kind != "try":
            return False
        self._spots[-1] = Spot("catch", (*spot.head, block, name), spot.blanks, spot.deep)
        return True

    def _end(self, spot, block):
        """Puts what a block closes into its place."""
        if spot.kind == "method":
            name, params = spot.head
            self.done_classes[self._class][3][name] = (params, block)
            return
        outer = self._spots[-1]
        if spot.kind == "fn":
            self._functions[outer.lacking[0]] = ("fn", spot.head, block)
            outer.lacking = outer.lacking[1:]
            self._go_on(outer)
        elif spot.kind == "if":
            outer.statements.append((*spot.head, block, ()))
        else:
            outer.statements.append((*spot.head, block))


def read_program(text):
    """The program that this is the text of."""
    if not isinstance(text, str):
        raise BadText(-1)
    lines = text.split("\n")
    closed = lines[:-1]
    reader = Reader()
    for number, line in enumerate(closed):
        if not reader.takes(line):
            raise BadText(number)
    if lines[-1] != "" or not reader.is_whole():
        raise BadText(len(closed))
    return Program(reader.done_classes, reader.done_body())


def _filled(part, functions):
    """What was read of a line, with its functions in the place of their numbers."""
    if not isinstance(part, tuple):
        return part
    if len(part) == 2 and part[0] == "fn":
        return functions[part[1]]
    return tuple([_filled(inner, functions) for inner in part])
