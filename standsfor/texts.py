"""Programs and events as texts."""

from standsfor.blocks import blocks_of, has_test
from standsfor.errors import BadEvent, NoText
from standsfor.events import is_event
from standsfor.forms import CALLS
from standsfor.vocabulary import WORDS
from standsfor.walks import inner_parts, parts_of

SIGNS = {"both": "and", "either": "or"}


def program_text(program):
    """The text of a program, whose lines are closed by line feeds."""
    classes = program.classes
    wrong = [name for name in _all_names(classes, program.body) if name in WORDS]
    if wrong:
        raise NoText(min(wrong))
    writer = Writer()
    for name in sorted(classes):
        writer.add_class(name, classes[name])
    writer.add_body(program.body)
    return "".join([line + "\n" for line in writer.written])


def event_text(event):
    """The words of an event with blanks between."""
    if not is_event(event):
        raise BadEvent(event)
    return " ".join([_event_part(part) for part in event])


class Writer:
    """Writes a program line by line."""

    def __init__(self):
        self.written = []
        # How many functions stand in what is written.
        self._many = 0
        # The functions, with their numbers, of the line that is being written.
        self._met = []

    def add_class(self, name, cls):
        """Writes a class with its fields and methods."""
        parent, mark, fields, methods = cls
        self._add(0, f"class {name} {mark}" if parent is None else f"class {name} {mark} of {parent}")
        for field in sorted(fields):
            self._add(2, " ".join(["field", field, *fields[field]]))
        for method in sorted(methods):
            params, block = methods[method]
            self._add(2, " ".join(["method", method, *params]))
            self._add_block(4, block)
            self._add(2, "end")

    def add_body(self, block):
        """Writes the body."""
        self._add(0, "body")
        self._add_block(2, block)

    def _add(self, blanks, text):
        self.written.append(" " * blanks + text)

    def _add_block(self, blanks, block):
        for statement in block:
            self._add(blanks, self._head(statement))
            self._add_functions(blanks)
            self._add_inner(blanks, statement)

    def _add_functions(self, blanks):
        """Writes the functions that stand in the last line."""
        met = self._met
        self._met = []
        for number, (_, params, block) in met:
            self._add(blanks, " ".join(["fn", str(number), *params]))
            self._add_block(blanks + 2, block)
            self._add(blanks, "end")

    def _add_inner(self, blanks, statement):
        """Writes the blocks of a statement, if it has some."""
        blocks = blocks_of(statement)
        if not blocks:
            return
        self._add_block(blanks + 2, blocks[0])
        kind = statement[0]
        if kind == "try":
            self._add(blanks, f"catch {statement[2]}")
        elif kind == "last":
            self._add(blanks, "then")
        elif kind == "if" and blocks[1]:
            self._add(blanks, "else")
        if len(blocks) > 1:
            self._add_block(blanks + 2, blocks[1])
        self._add(blanks, "end")

    def _head(self, statement):
        """The line of a statement."""
        kind = statement[0]
        if kind in ("try", "last"):
            return kind
        if has_test(statement):
            return f"{kind} {self._test(statement[1])}"
        return " ".join([*statement[:-1], self._right(statement[-1])])

    def _test(self, test):
        kind = test[0]
        if kind == "same":
            one, other = [self._simple(side) for side in test[1:]]
            return f"{one} = {other}"
        parts = [self._test(part) for part in test[1:]]
        if kind == "not":
            return f"not ({parts[0]})"
        return f"({parts[0]} {SIGNS[kind]} {parts[1]})"

    def _right(self, right):
        kind = right[0]
        if kind not in CALLS:
            return self._simple(right)
        if kind == "parent":
            asked = f"parent!{right[1]}"
        elif kind == "ask":
            asked = f"{self._simple(right[1])}!{right[2]}"
        else:
            asked = self._simple(right[1])
        told = ", ".join([self._simple(thing) for thing in right[-1]])
        return f"{asked}({told})"

    def _simple(self, simple):
        kind = simple[0]
        if kind == "word":
            return f"'{simple[1]}"
        if kind == "name":
            return simple[1]
        if kind == "field":
            return f".{simple[1]}"
        if kind == "new":
            return f"new {simple[1]}"
        if kind == "fn":
            number = self._many
            self._many += 1
            self._met.append((number, simple))
            return f"fn {number}"
        return kind


def _all_names(classes, body):
    """The names of all variables, fields, methods and classes of a program."""
    found = []
    blocks = [body]
    for name, (_, _, fields, methods) in classes.items():
        # Parents are among the classes, and have their names there.
        found.extend([name, *fields, *methods])
        for params, block in methods.values():
            found.extend(list(params))
            blocks.append(block)
    for block in blocks:
        for kind, part in parts_of(block):
            if kind in ("statement", "right", "simple") and part[0] != "word":
                found.extend(_names_right_in(kind, part))
    return found


def _names_right_in(kind, part):
    """The names that stand right in a statement or an expression."""
    found = []
    for inner, thing in inner_parts(kind, part):
        if inner in ("name", "field", "class"):
            found.append(thing)
        elif inner == "params":
            found.extend(list(thing))
    return found


def _event_part(part):
    if isinstance(part, tuple):
        return f"'{part[1]}" if part[0] == "word" else " ".join([str(word) for word in part])
    return str(part)
