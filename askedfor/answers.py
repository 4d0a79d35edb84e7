"""Answering at once: clauses that do something and then call the resumption, once.

Nothing has to be kept for such a clause.
"""

from askedfor.trees import free_names, numbered


def answers_at_once(clause):
    """Tell whether a clause answers at once."""
    _, _, resumption, expression = clause
    return calls_last(expression, resumption)


def keeps_nothing(expression):
    """Tell whether all clauses of all handlers in an expression answer at once."""
    handlers = [one for one in numbered(expression) if one[0] == "handle"]
    return all([answers_at_once(clause) for handler in handlers for clause in handler[3]])


def calls_last(expression, name):
    """Tell whether the last thing that an expression does is to call the name, and nothing else names it."""
    form = expression[0]
    if form == "call":
        return expression[1] == ("name", name) and without(expression[2], name)
    if form == "let":
        _, bound, first, body = expression
        return without(first, name) and bound != name and calls_last(body, name)
    if form == "if":
        _, test, branch, other = expression
        return without(test, name) and calls_last(branch, name) and calls_last(other, name)
    if form == "print":
        _, printed, body = expression
        return without(printed, name) and calls_last(body, name)
    return False


def without(expression, name):
    """Tell whether a name does not occur free in an expression."""
    return name not in free_names(expression)
