"""The whole: a text is read, judged by its row, and run on one of three roads."""

from askedfor.code import compile_expression
from askedfor.errors import Unhandled, Unknown
from askedfor.infer import infer
from askedfor.machine import run_machine
from askedfor.plain import run_plain
from askedfor.reader import read
from askedfor.runner import run_code


def plain_road(expression, steps):
    """Rewrite the expression."""
    return run_plain(expression, steps)


def machine_road(expression, steps):
    """Evaluate the expression with bindings."""
    return run_machine(expression, steps)


def code_road(expression, steps):
    """Compile the expression, and run its code."""
    return run_code(compile_expression(expression), steps)


ROADS = {"plain": plain_road, "machine": machine_road, "code": code_road}


def outcome(text, steps, *, road="code"):
    """Return what the program of a text prints and how it ends, on one road."""
    if road not in ROADS:
        raise Unknown(road)
    run = ROADS[road]
    return run(let_by(text), steps)


def all_outcomes(text, steps):
    """Return the list of the outcomes of the program of a text on all roads."""
    expression = let_by(text)
    found = []
    for road in ROADS:
        run = ROADS[road]
        found.append(run(expression, steps))
    return found


def let_by(text):
    """Return the expression of a text whose operations are all handled; refuse others."""
    program = read(text)
    _, rows = infer(program)
    # An operation that is asked for reaches the row of the whole, unless it is handled.
    if rows[0]:
        raise Unhandled(rows[0][0])
    return program[2]
