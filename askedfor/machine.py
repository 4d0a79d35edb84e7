"""The machine: it evaluates with bindings, and its stack consists of pieces.

A frame is a triple (expression, bindings, values), with the values of the parts that are known; it
waits for the value of the next part. A function is the value ("closure", expression, bindings), and
a resumption is ("kept", pieces).

Each form of expression has a rule for what is done when the values of the parts that are evaluated
first are known. It is passed the machine, the expression, the bindings, and these values, and
returns the expression to go on with and its bindings. A value in the place of an expression is
("known", value).
"""

from askedfor.runs import FIRST_EVALUATED, negated, operated
from askedfor.stack import Stack
from askedfor.trees import free_names, parts, with_parts


def run_machine(expression, steps):
    """Run an expression, and return what it prints and how it ends."""
    prints, end, _ = run_counted(expression, steps)
    return prints, end


def run_counted(expression, steps):
    """Run an expression, and return the number of the pieces that were kept, and the most, too."""
    machine = Stack(steps)
    tree = prepared(expression)
    bindings = {}
    while machine.end is None:
        tree, bindings = advanced(machine, tree, bindings)
    return tuple(machine.prints), machine.end, (machine.kept, machine.most)


def prepared(expression):
    """Return the expression, where each function has the names that it needs as a last item."""
    inner = [prepared(part) for part in parts(expression)]
    if expression[0] in ("fun", "rec"):
        return (*with_parts(expression, inner), free_names(expression))
    return with_parts(expression, inner)


def advanced(machine, tree, bindings):
    """Return the expression that follows, and its bindings."""
    if tree[0] != "known":
        return go_on(machine, tree, bindings, ())
    frame = machine.waiting()
    if frame is None:
        return end_piece(machine, tree[1])
    expression, outside, values = frame
    return go_on(machine, expression, outside, (*values, tree[1]))


def go_on(machine, expression, bindings, values):
    """Go on with an expression when the values of some parts are known."""
    form = expression[0]
    places = FIRST_EVALUATED[form]
    if len(values) == len(places):
        rule = RULES[form]
        return rule(machine, expression, bindings, values)
    if form == "handle":
        machine.put((expression, bindings))
    else:
        machine.wait((expression, bindings, values))
    return expression[places[len(values)]], bindings


def end_piece(machine, value):
    """Go on when all that a piece stands for has a value: its handler has ended, or the run ends."""
    if len(machine.handlers) == 1:
        machine.end_with(value)
        return ("known", value), None
    handle, bindings = machine.take()
    name, body = handle[2]
    return body, {**bindings, name: value}


def literal_rule(machine, expression, bindings, values):
    """What is a value already."""
    return ("known", expression), bindings


def name_rule(machine, expression, bindings, values):
    """A name has the value to which it is bound."""
    return ("known", bindings[expression[1]]), bindings


def function_rule(machine, expression, bindings, values):
    """A function keeps the bindings that it needs, and no others, lest values pile up in them."""
    needed = {name: bindings[name] for name in expression[-1]}
    return ("known", ("closure", expression, needed)), bindings


def call_rule(machine, expression, bindings, values):
    """A call of a function or of a resumption."""
    called, given = values
    if not machine.take_step():
        return expression, bindings
    if called[0] == "kept":
        machine.put_back(called[1])
        return ("known", given), bindings
    _, function, outside = called
    if function[0] == "fun":
        return function[2], {**outside, function[1]: given}
    # The argument comes later in the dict, so it counts where both have the same name.
    return function[3], {**outside, function[1]: called, function[2]: given}


def let_rule(machine, expression, bindings, values):
    """The name is bound in the second part."""
    return expression[3], {**bindings, expression[1]: values[0]}


def choice_rule(machine, expression, bindings, values):
    """One of the branches."""
    branch = expression[2] if values[0][1] else expression[3]
    return branch, bindings


def pair_rule(machine, expression, bindings, values):
    """A pair of values."""
    first, second = values
    return ("known", ("pair", first, second)), bindings


def first_rule(machine, expression, bindings, values):
    """The first part of a pair."""
    return ("known", values[0][1]), bindings


def second_rule(machine, expression, bindings, values):
    """The second part of a pair."""
    return ("known", values[0][2]), bindings


def operator_rule(machine, expression, bindings, values):
    """An operator on two integers."""
    left, right = values
    return ("known", operated(expression[1], left, right)), bindings


def not_rule(machine, expression, bindings, values):
    """The only operator on what is true or false."""
    return ("known", negated(values[0])), bindings


def print_rule(machine, expression, bindings, values):
    """Print the integer, and go on with the second part."""
    machine.prints.append(values[0][1])
    return expression[2], bindings


def ask_rule(machine, expression, bindings, values):
    """The innermost handler with a clause answers, when its pieces are off the stack."""
    if not machine.take_step():
        return expression, bindings
    found = machine.answering(expression[1])
    if found is None:
        machine.end_unhandled(expression[1])
        return expression, bindings
    place, clause = found
    _, outside = machine.handlers[place]
    _, name, resumption, answer = clause
    # The resumption comes later in the dict, so it counts where both have the same name.
    return answer, {**outside, name: values[0], resumption: ("kept", machine.keep(place))}


RULES = {
    "num": literal_rule, "flag": literal_rule, "unit": literal_rule, "name": name_rule,
    "fun": function_rule, "rec": function_rule, "call": call_rule, "let": let_rule,
    "if": choice_rule, "pair": pair_rule, "fst": first_rule, "snd": second_rule,
    "op": operator_rule, "not": not_rule, "print": print_rule, "ask": ask_rule,
}
