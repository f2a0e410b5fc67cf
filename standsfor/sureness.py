"""Which names are sure in the blocks of a plain method.

The names that are sure somewhere are the keys of a dict; None stands for all names.
"""

from standsfor.blocks import simples_of


class Sureness:
    """Looks at the names of a method; holds is False if one is used that is not sure."""

    def __init__(self, params, block):
        self.holds = True
        self._behind(block, {param: True for param in params})

    def _behind(self, block, sure):
        """What is sure behind the block, if these names are sure ahead of it."""
        for statement in block:
            self._look(statement, sure)
            sure = self._behind_statement(statement, sure)
        return sure

    def _look(self, statement, sure):
        used = [simple[1] for simple in simples_of(statement) if simple[0] == "name"]
        if statement[0] == "set":
            used.append(statement[1])
        if sure is not None and not all([name in sure for name in used]):
            self.holds = False

    def _behind_statement(self, statement, sure):
        kind = statement[0]
        if kind in ("return", "raise"):
            return None
        if kind == "let":
            return _with_name(sure, statement[1])
        if kind == "if":
            return _in_both(self._behind(statement[2], sure), self._behind(statement[3], sure))
        if kind == "try":
            caught = _with_name(sure, statement[2])
            return _in_both(self._behind(statement[1], sure), self._behind(statement[3], caught))
        if kind == "last":
            return _in_either(self._behind(statement[1], sure), self._behind(statement[2], sure))
        return sure


def _with_name(sure, name):
    return None if sure is None else {**sure, name: True}


def _in_both(one, other):
    if one is None:
        return other
    if other is None:
        return one
    return {name: True for name in one if name in other}


def _in_either(one, other):
    return None if one is None or other is None else {**one, **other}
