"""What all roads have in common: values, the steps of a run, what it prints, and how it ends.

Values are tuples whose first item tells their form: ("num", n), ("flag", b), ("unit",) and
("pair", v, w) on all roads. Each road has its own forms for functions and resumptions.
"""

HALF = 2147483648

# At which indexes of its tuple the parts of an expression stand that are evaluated before the
# expression itself.
FIRST_EVALUATED = {
    "num": (), "flag": (), "unit": (), "name": (), "call": (1, 2), "fun": (), "rec": (), "let": (2,),
    "if": (1,), "pair": (1, 2), "fst": (1,), "snd": (1,), "op": (2, 3), "not": (1,), "print": (1,),
    "ask": (2,), "handle": (1,),
}


class Run:
    """What a run has left, what it has printed, and how it ended."""

    def __init__(self, steps):
        self.left = steps
        self.prints = []
        # None as long as the run has not ended.
        self.end = None

    def take_step(self):
        """Count a step, or end the run if none is left; tell whether it was counted."""
        if self.left == 0:
            self.end = ("steps",)
            return False
        self.left -= 1
        return True

    def end_with(self, value):
        """End the run with a value."""
        self.end = ("value", shape(value))

    def end_unhandled(self, operation):
        """End the run with an operation that nobody answers."""
        self.end = ("unhandled", operation)


def wrapped(number):
    """Return the integer modulo 2**32, from -2**31 to 2**31 - 1."""
    return (number + HALF) % (2 * HALF) - HALF


def operated(sign, left, right):
    """Return the value that an operator gives for two values."""
    if sign == "+":
        return ("num", wrapped(left[1] + right[1]))
    if sign == "-":
        return ("num", wrapped(left[1] - right[1]))
    if sign == "*":
        return ("num", wrapped(left[1] * right[1]))
    if sign == "<":
        return ("flag", left[1] < right[1])
    return ("flag", left[1] == right[1])


def negated(value):
    """Return the value that `not` gives for a value."""
    return ("flag", not value[1])


SHAPES = {"num": "int", "flag": "bool", "unit": "unit"}


def shape(value):
    """Return the shape of a value."""
    found = []
    waiting = [value]
    while waiting:
        one = waiting.pop()
        found.append(one)
        if one[0] == "pair":
            waiting.extend([one[2], one[1]])
    # What is inside of a pair stands behind it, the first before the second.
    built = []
    for one in reversed(found):
        if one[0] == "pair":
            first = built.pop()
            second = built.pop()
            built.append(("pair", first, second))
        elif one[0] in SHAPES:
            built.append((SHAPES[one[0]], *one[1:]))
        else:
            built.append(("fun",))
    return built[0]
