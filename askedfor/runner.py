"""Running code: handlers are found at once, and a clause that answers at once is run in place.

The stack has a piece for each handler that has not ended, one for each clause that is at work above
an `ask`, and one at the bottom. Each piece has its places: for each operation that is answered, how
many pieces further down the handler is that answers it. For the piece of a handler these are its own
operations, and for the others the places of the piece below, one further down. For the piece of a
clause they are the places of the piece below its own handler, as far down as that is; this is how
far it jumps.

A frame is (code, at, values, operands): where to go on, the values of the names in scope, and the
operands, which are a chain (value, others) with None at its end. A function is the value
("function", is it a `rec`, code, values), and a resumption is ("kept", what was kept).
"""

from askedfor.runs import negated, operated
from askedfor.stack import Stack


class CodeRun(Stack):
    """A run of code, and where it is."""

    def __init__(self, code, steps):
        Stack.__init__(self, steps)
        self.jumps = [None]
        self.places = [{}]
        # How many times a context was kept.
        self.contexts = 0
        self.code = code
        self.at = 0
        # The values of the names in scope, at their places.
        self.bound = ()
        self.operands = None

    def start(self, code, values):
        """Begin with other code."""
        self.code = code
        self.at = 0
        self.bound = values
        self.operands = None

    def leave(self):
        """Keep in a frame where to go on, before something else is begun."""
        # Nothing waits for what is returned at once, so calls that come last need no frames.
        if self.code[self.at][0] != "return":
            self.wait((self.code, self.at, self.bound, self.operands))

    def give(self, value):
        """Go on with a value where it is waited for."""
        frame = self.waiting()
        if frame is not None:
            self.code, self.at, self.bound, self.operands = frame
            self.operands = (value, self.operands)
        elif len(self.handlers) == 1:
            self.end_with(value)
        else:
            self.jumps.pop()
            self.places.pop()
            handle, values = self.take()
            self.start(handle[2], (*values, value))

    def begin_piece(self, handler, frames, jump):
        """Put a piece on the stack that has the places of one further down, and those of its handler."""
        places = {name: place + jump for name, place in self.places[len(self.places) - jump].items()}
        if handler is not None:
            for name in handler[0][3]:
                places[name] = 0
        self.put_back(([handler], [frames]))
        self.jumps.append(jump)
        self.places.append(places)

    def keep_from(self, place):
        """Take the pieces from one on off the stack, and return them as a resumption."""
        self.contexts += 1
        below = self.places[place - 1]
        jumps, places = self.jumps[place:], self.places[place:]
        del self.jumps[place:]
        del self.places[place:]
        return ("kept", (self.keep(place), jumps, places, below))

    def resume(self, kept):
        """Put the pieces of a resumption on the stack."""
        pieces, jumps, places, below = kept[1]
        if self.places[-1] == below:
            # The same handlers are as far below as they were, so all places are right.
            self.put_back(pieces)
            self.jumps.extend(jumps)
            self.places.extend(places)
        else:
            handlers, frames = pieces
            for handler, chain, jump in zip(handlers, frames, jumps):
                self.begin_piece(handler, chain, jump)


def run_code(code, steps):
    """Run code, and return what it prints and how it ends."""
    prints, end, _ = run_kept(code, steps)
    return prints, end


def run_kept(code, steps):
    """Run code, and return how many times a context was kept, too."""
    run = CodeRun(code, steps)
    while run.end is None:
        instruction = run.code[run.at]
        run.at += 1
        rule = RULES[instruction[0]]
        rule(run, instruction)
    return tuple(run.prints), run.end, run.contexts


def do_value(run, instruction):
    """A value as it stands."""
    run.operands = (instruction[1], run.operands)


def do_name(run, instruction):
    """The value of a name."""
    run.operands = (run.bound[instruction[1]], run.operands)


def do_function(run, instruction):
    """A function with the values that it needs."""
    _, recursive, code, places = instruction
    values = tuple([run.bound[place] for place in places])
    run.operands = (("function", recursive, code, values), run.operands)


def do_call(run, instruction):
    """A call of a function or of a resumption."""
    given, (called, others) = run.operands
    if not run.take_step():
        return
    run.operands = others
    run.leave()
    if called[0] == "kept":
        run.resume(called)
        run.give(given)
        return
    _, recursive, code, values = called
    run.start(code, (*values, called, given) if recursive else (*values, given))


def do_bind(run, instruction):
    """Bind a name."""
    value, run.operands = run.operands
    run.bound = (*run.bound, value)


def do_unbind(run, instruction):
    """The name that was bound last is not bound any more."""
    run.bound = run.bound[:-1]


def do_unless(run, instruction):
    """Go on elsewhere if a test does not hold."""
    test, run.operands = run.operands
    if not test[1]:
        run.at = instruction[1]


def do_jump(run, instruction):
    """Go on elsewhere."""
    run.at = instruction[1]


def do_pair(run, instruction):
    """A pair of values."""
    second, (first, others) = run.operands
    run.operands = (("pair", first, second), others)


def do_half(run, instruction):
    """The first or the second part of a pair."""
    pair, others = run.operands
    run.operands = (pair[instruction[1]], others)


def do_operator(run, instruction):
    """An operator on two integers."""
    right, (left, others) = run.operands
    run.operands = (operated(instruction[1], left, right), others)


def do_not(run, instruction):
    """The only operator on what is true or false."""
    value, others = run.operands
    run.operands = (negated(value), others)


def do_print(run, instruction):
    """Print an integer."""
    value, run.operands = run.operands
    run.prints.append(value[1])


def do_handle(run, instruction):
    """Begin a handler, and what it handles."""
    values = run.bound
    run.leave()
    run.begin_piece((instruction, values), None, 1)
    run.start(instruction[1], values)


def do_ask(run, instruction):
    """Find the handler that answers, and begin its clause: in place, or where its handler stood."""
    operation = instruction[1]
    given, run.operands = run.operands
    if not run.take_step():
        return
    further = run.places[-1].get(operation)
    if further is None:
        run.end_unhandled(operation)
        return
    run.leave()
    place = len(run.places) - 1 - further
    handle, values = run.handlers[place]
    at_once, code = handle[3][operation]
    if at_once:
        # Above the `ask`, with what is below the handler that is `further` down from there.
        run.begin_piece(None, None, further + 2)
        run.start(code, (*values, given))
    else:
        run.start(code, (*values, given, run.keep_from(place)))


def do_answer(run, instruction):
    """A clause that is at work above an `ask` calls its resumption: this is the value of the `ask`."""
    value, run.operands = run.operands
    if run.take_step():
        run.jumps.pop()
        run.places.pop()
        run.take()
        run.give(value)


def do_return(run, instruction):
    """All that this code is for has a value."""
    value, run.operands = run.operands
    run.give(value)


RULES = {
    "value": do_value, "name": do_name, "function": do_function, "call": do_call, "bind": do_bind,
    "unbind": do_unbind, "unless": do_unless, "jump": do_jump, "pair": do_pair, "half": do_half,
    "op": do_operator, "not": do_not, "print": do_print, "handle": do_handle, "ask": do_ask,
    "answer": do_answer, "return": do_return,
}
