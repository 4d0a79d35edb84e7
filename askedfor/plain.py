"""The plain meaning: trees are rewritten, and the context of an expression is a list of frames.

A frame is a pair of an expression and the tuple of the values of its parts that are known; it waits
for the value of the next part. Each form of expression has a rule for what is done when the values
of the parts that are evaluated first are known. It is passed the run, the expression and these
values, and returns the tree to go on with. A value in the place of a tree is ("known", value).
"""

from askedfor.runs import FIRST_EVALUATED, negated, operated
from askedfor.stack import Stack
from askedfor.trees import put_all_in


def run_plain(expression, steps):
    """Run an expression, and return what it prints and how it ends."""
    run = Stack(steps)
    tree = expression
    while run.end is None:
        tree = rewritten(run, tree)
    return tuple(run.prints), run.end


def rewritten(run, tree):
    """Return the tree that follows in its context."""
    if tree[0] != "known":
        return go_on(run, tree, ())
    frame = run.waiting()
    if frame is None:
        return end_piece(run, tree)
    expression, values = frame
    return go_on(run, expression, (*values, tree[1]))


def go_on(run, expression, values):
    """Go on with an expression when the values of some parts are known."""
    form = expression[0]
    places = FIRST_EVALUATED[form]
    if len(values) == len(places):
        rule = RULES[form]
        return rule(run, expression, values)
    if form == "handle":
        # Trees have no bindings.
        run.put((expression, None))
    else:
        run.wait((expression, values))
    return expression[places[len(values)]]


def end_piece(run, tree):
    """Go on when there is a value outside of all frames of a piece: its handler or the run ends."""
    if len(run.handlers) == 1:
        run.end_with(tree[1])
        return tree
    handle, _ = run.take()
    name, body = handle[2]
    return put_all_in(body, {name: tree})


def value_rule(run, expression, values):
    """What is a value already."""
    return ("known", expression)


def call_rule(run, expression, values):
    """A call of a function or of a resumption."""
    called, given = values
    if not run.take_step():
        return expression
    argument = ("known", given)
    if called[0] == "kept":
        run.put_back(called[1])
        return argument
    if called[0] == "fun":
        return put_all_in(called[2], {called[1]: argument})
    # The argument comes later in the dict, so it counts where both have the same name.
    return put_all_in(called[3], {called[1]: ("known", called), called[2]: argument})


def let_rule(run, expression, values):
    """The value is put into the second part."""
    return put_all_in(expression[3], {expression[1]: ("known", values[0])})


def choice_rule(run, expression, values):
    """One of the branches."""
    return expression[2] if values[0][1] else expression[3]


def pair_rule(run, expression, values):
    """A pair of values."""
    first, second = values
    return ("known", ("pair", first, second))


def first_rule(run, expression, values):
    """The first part of a pair."""
    return ("known", values[0][1])


def second_rule(run, expression, values):
    """The second part of a pair."""
    return ("known", values[0][2])


def operator_rule(run, expression, values):
    """An operator on two integers."""
    left, right = values
    return ("known", operated(expression[1], left, right))


def not_rule(run, expression, values):
    """The only operator on what is true or false."""
    return ("known", negated(values[0]))


def print_rule(run, expression, values):
    """Print the integer, and go on with the second part."""
    run.prints.append(values[0][1])
    return expression[2]


def ask_rule(run, expression, values):
    """The innermost handler with a clause answers, outside of itself."""
    if not run.take_step():
        return expression
    found = run.answering(expression[1])
    if found is None:
        run.end_unhandled(expression[1])
        return expression
    place, clause = found
    _, name, resumption, answer = clause
    # The resumption comes later in the dict, so it counts where both have the same name.
    kept = ("kept", run.keep(place))
    return put_all_in(answer, {name: ("known", values[0]), resumption: ("known", kept)})


RULES = {
    "num": value_rule, "flag": value_rule, "unit": value_rule, "fun": value_rule, "rec": value_rule,
    "call": call_rule, "let": let_rule, "if": choice_rule, "pair": pair_rule, "fst": first_rule,
    "snd": second_rule, "op": operator_rule, "not": not_rule, "print": print_rule, "ask": ask_rule,
}
