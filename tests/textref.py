"""A second way to judge texts of programs: by patterns of whole lines, and one function for each part."""

import re

WORDS = """none me new parent fn not and or end else catch then let set keep do print return raise if while try last
class field method of""".split()
WORD = "[a-z]{1,8}"
NAME = f"(?!(?:{'|'.join(WORDS)})(?![a-z])){WORD}(?![a-z])"
SIMPLE = rf"(?:'{WORD}|none(?![a-z])|me(?![a-z])|\.{NAME}|new {NAME}|fn (?:0|[1-9][0-9]*)|{NAME})"
THINGS = rf"\((?:{SIMPLE}(?:, {SIMPLE}){{0,2}})?\)"
RIGHT = rf"(?:{SIMPLE}(?:!{NAME})?{THINGS}|parent!{NAME}{THINGS}|{SIMPLE})"
SAME = f"{SIMPLE} = {SIMPLE}"


def wider(test):
    return rf"(?:{SAME}|not \({test}\)|\({test} (?:and|or) {test}\))"


TEST = wider(wider(f"(?:{SAME})"))
LINE = re.compile(f"(?:let|set|keep) {NAME} {RIGHT}|(?:do|return|raise) {RIGHT}|print {SIMPLE}"
                  f"|(?:if|while) {TEST}|try|last")
PARAMS = f"(?: {NAME}){{0,3}}"


class Bad(Exception):
    def __init__(self, line):
        super().__init__()
        self.line = line


class Lines:
    def __init__(self, text):
        *self.lines, self.rest = text.split("\n")
        self.at = 0
        self.functions = 0

    def fail(self):
        raise Bad(self.at)

    def peek(self):
        """The line that comes next; if there is none, something is lacking."""
        if self.at == len(self.lines):
            self.fail()
        return self.lines[self.at]

    def take(self, pattern):
        found = re.fullmatch(pattern, self.peek())
        if not found:
            self.fail()
        self.at += 1
        return found

    def program(self):
        above = ""
        while self.peek() != "body":
            name = self.take(f"class ({NAME}) (?:open|closed)(?: of {NAME})?")[1]
            if name <= above:
                self.at -= 1
                self.fail()
            above = name
            self.members("field", rf"  field ({NAME})(?: {WORD})*")
            self.members("method", f"  method ({NAME}){PARAMS}")
        self.take("body")
        while self.at < len(self.lines):
            self.statement(2, 1)
        if self.rest:
            self.fail()

    def members(self, kind, pattern):
        above = ""
        while self.at < len(self.lines) and self.peek().startswith(f"  {kind} "):
            name = self.take(pattern)[1]
            if name <= above:
                self.at -= 1
                self.fail()
            above = name
            if kind == "method":
                self.block(4, 1, "  end")

    def block(self, blanks, deep, *ends):
        """Takes statements up to one of these lines, and tells which."""
        while self.peek() not in ends:
            self.statement(blanks, deep)
        self.at += 1
        return self.lines[self.at - 1]

    def statement(self, blanks, deep):
        line = self.peek()
        ahead = " " * blanks
        if not line.startswith(ahead) or not LINE.fullmatch(line[blanks:]):
            self.fail()
        numbers = [int(digits) for digits in re.findall(r"(?<!')fn ([0-9]+)", line)]
        if numbers != list(range(self.functions, self.functions + len(numbers))):
            self.fail()
        kind = line.split()[0]
        if deep == 8 and (numbers or kind in ("if", "while", "try", "last")):
            self.fail()
        self.functions += len(numbers)
        self.at += 1
        for number in numbers:
            self.take(f"{ahead}fn {number}{PARAMS}")
            self.block(blanks + 2, deep + 1, f"{ahead}end")
        if kind == "if":
            if self.block(blanks + 2, deep + 1, f"{ahead}else", f"{ahead}end").endswith("else"):
                if self.peek() == f"{ahead}end":
                    self.fail()
                self.block(blanks + 2, deep + 1, f"{ahead}end")
        elif kind == "while":
            self.block(blanks + 2, deep + 1, f"{ahead}end")
        elif kind == "try":
            self.until(blanks, deep, f"{ahead}catch {NAME}")
            self.block(blanks + 2, deep + 1, f"{ahead}end")
        elif kind == "last":
            self.block(blanks + 2, deep + 1, f"{ahead}then")
            self.block(blanks + 2, deep + 1, f"{ahead}end")

    def until(self, blanks, deep, pattern):
        while not re.fullmatch(pattern, self.peek()):
            self.statement(blanks + 2, deep + 1)
        self.at += 1


def bad_line(text):
    """The line that BadText tells, None if the lines are good."""
    try:
        Lines(text).program()
    except Bad as bad:
        return bad.line
    return None
