"""The values of a run, and the surroundings in which names have them.

A run only goes on, but a session looks at what was there ahead of its latest
steps, too. So what changes is kept as a past: a list of tuples (step, value),
the number of the step that gave the value and the value, the latest one last.
"""


class Surroundings:
    """Names with their pasts, within the outer surroundings, if there are some."""

    def __init__(self, outer):
        self.outer = outer
        self.pasts = {}

    def give(self, name, value, step):
        """The name has the value from this step on."""
        self.pasts.setdefault(name, []).append((step, value))

    def nearest(self, name):
        """The nearest surroundings, from these outward, that have the name, or None."""
        found = self
        while found is not None and name not in found.pasts:
            found = found.outer
        return found


class Call:
    """A call under way, or the doing of the body, whose number is 0."""

    def __init__(self, surroundings, thing, text, waiting, number):
        self.surroundings = surroundings
        self.thing = thing
        # The name of the class in whose text the block stands, or None.
        self.text = text
        # The statement that goes on with what the call brings.
        self.waiting = waiting
        # How many calls are under way with this one.
        self.number = number


class Function:
    """A function, with the call in which it was made."""

    def __init__(self, params, block, made_in):
        self.params = params
        self.block = block
        self.made_in = made_in


class Thing:
    """A thing with the words of its fields, by class and field."""

    def __init__(self, chain):
        # The names of its class and of those above it, from the class upward.
        self.chain = chain
        self.pasts = {}


def latest(past):
    """The value that was given last."""
    return past[-1][1]


def is_given_by(past, step):
    """Whether there was a value behind this step."""
    return past[0][0] <= step


def value_behind(past, step):
    """The value that was there behind this step, where there was one."""
    low = 0
    high = len(past)
    while high - low > 1:
        middle = (low + high) // 2
        if past[middle][0] <= step:
            low = middle
        else:
            high = middle
    return past[low][1]


def told(value):
    """What print has for the value."""
    if value is None:
        return "none"
    if isinstance(value, str):
        return value
    return "function" if isinstance(value, Function) else "thing"
