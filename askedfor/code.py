"""Compiling: an expression becomes code, which is a tuple of instructions.

An instruction is a tuple whose first item is its word; `runner` tells what each word does. Values
are put on a pile of operands, and names are bound at places in the scope, counted from 0. Each body
of a function, each clause and each first part of a handler has code of its own; code ends where
`return` or `answer` stands.
"""

from askedfor.answers import answers_at_once
from askedfor.trees import free_names


def compile_expression(expression):
    """Return the code of an expression."""
    return compiled(expression, (), False)


def compiled(expression, scope, answering):
    """Return the code of an expression in which these names are bound.

    If it is what a clause answers at once, then its code ends with the answers.
    """
    code = []
    add_last(code, expression, scope, answering)
    return tuple(code)


def add_last(code, expression, scope, answering):
    """Add the instructions for an expression that is the last one of its code."""
    form = expression[0]
    if form == "let":
        add_bound(code, expression, scope)
        add_last(code, expression[3], (*scope, expression[1]), answering)
    elif form == "if":
        place = add_test(code, expression, scope)
        add_last(code, expression[2], scope, answering)
        code[place] = ("unless", len(code))
        add_last(code, expression[3], scope, answering)
    elif form == "print":
        add_printed(code, expression, scope)
        add_last(code, expression[2], scope, answering)
    elif answering:
        # This is the call of the resumption, whose argument is the answer.
        add(code, expression[2], scope)
        code.append(("answer",))
    else:
        add(code, expression, scope)
        code.append(("return",))


def add(code, expression, scope):
    """Add the instructions for an expression that something follows."""
    rule = RULES[expression[0]]
    rule(code, expression, scope)


def place_of(name, scope):
    """Return the place of a name; the one that is bound last counts."""
    return len(scope) - 1 - scope[::-1].index(name)


def add_bound(code, expression, scope):
    """Add what a `let` binds."""
    add(code, expression[2], scope)
    code.append(("bind",))


def add_test(code, expression, scope):
    """Add what an `if` tests, and return the place where the instruction belongs that decides."""
    add(code, expression[1], scope)
    code.append(("unless", None))
    return len(code) - 1


def add_printed(code, expression, scope):
    """Add what a `print` prints."""
    add(code, expression[1], scope)
    code.append(("print",))


def add_literal(code, expression, scope):
    """Numbers, flags and unit."""
    code.append(("value", expression))


def add_name(code, expression, scope):
    """A name."""
    code.append(("name", place_of(expression[1], scope)))


def add_function(code, expression, scope):
    """A function keeps the values of the names that it needs, and no others."""
    needed = free_names(expression)
    inner = compiled(expression[-1], (*needed, *expression[1:-1]), False)
    places = tuple([place_of(name, scope) for name in needed])
    code.append(("function", expression[0] == "rec", inner, places))


def add_call(code, expression, scope):
    """A call."""
    add(code, expression[1], scope)
    add(code, expression[2], scope)
    code.append(("call",))


def add_let(code, expression, scope):
    """What is bound, and then what it is bound in."""
    add_bound(code, expression, scope)
    add(code, expression[3], (*scope, expression[1]))
    code.append(("unbind",))


def add_choice(code, expression, scope):
    """Both branches, with a jump from the end of the first over the second."""
    place = add_test(code, expression, scope)
    add(code, expression[2], scope)
    jump = len(code)
    code.append(("jump", None))
    code[place] = ("unless", len(code))
    add(code, expression[3], scope)
    code[jump] = ("jump", len(code))


def add_pair(code, expression, scope):
    """A pair."""
    add(code, expression[1], scope)
    add(code, expression[2], scope)
    code.append(("pair",))


def add_half(code, expression, scope):
    """The first or the second part of a pair."""
    add(code, expression[1], scope)
    code.append(("half", 1 if expression[0] == "fst" else 2))


def add_operator(code, expression, scope):
    """An operator on two integers."""
    add(code, expression[2], scope)
    add(code, expression[3], scope)
    code.append(("op", expression[1]))


def add_not(code, expression, scope):
    """The only operator on what is true or false."""
    add(code, expression[1], scope)
    code.append(("not",))


def add_print(code, expression, scope):
    """What is printed, and then what follows."""
    add_printed(code, expression, scope)
    add(code, expression[2], scope)


def add_ask(code, expression, scope):
    """An `ask`."""
    add(code, expression[2], scope)
    code.append(("ask", expression[1]))


def add_handle(code, expression, scope):
    """The code of the first part, that of the return clause, and for each operation its clause."""
    _, inner, (name, body), clauses = expression
    answers = {clause[0]: compiled_clause(clause, scope) for clause in clauses}
    code.append(("handle", compiled(inner, scope, False), compiled(body, (*scope, name), False), answers))


def compiled_clause(clause, scope):
    """Return the code of a clause, with whether it answers at once."""
    _, name, resumption, answer = clause
    if answers_at_once(clause):
        # It does not need its resumption.
        return True, compiled(answer, (*scope, name), True)
    return False, compiled(answer, (*scope, name, resumption), False)


RULES = {
    "num": add_literal, "flag": add_literal, "unit": add_literal, "name": add_name,
    "fun": add_function, "rec": add_function, "call": add_call, "let": add_let, "if": add_choice,
    "pair": add_pair, "fst": add_half, "snd": add_half, "op": add_operator, "not": add_not,
    "print": add_print, "ask": add_ask, "handle": add_handle,
}
