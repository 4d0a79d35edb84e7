"""Judging typings: whether the rules for types and rows hold with types and rows that are given.

Each form of expression has a rule. It is passed the claim, the expression, its number and the
numbers of its parts, and tells whether the types fit. Rows are looked at for all forms in one way.
"""

from askedfor.alike import Alike
from askedfor.trees import numbered, parts

LITERALS = {"num": "int", "flag": "bool", "unit": "unit"}
COMPARISONS = ("<", "==")


class Claim:
    """The types and the rows that are to be judged, and what is declared."""

    def __init__(self, operations, types, rows):
        self.types = types
        self.rows = rows
        # What each operation is asked with, and what it is answered with.
        self.given = {name: given for name, given, _ in operations}
        self.answered = {name: answered for name, _, answered in operations}
        # The types of the names that are bound, for each expression that was come to.
        self.names = {0: {}}
        self.alike = Alike()

    def same(self, number, wanted):
        """Tell whether an expression has a type."""
        return self.alike.same(self.types[number], wanted)

    def is_kind(self, number, kind):
        """Tell whether the type of an expression is of a kind."""
        return self.types[number][0] == kind

    def brings(self, number, row):
        """Tell whether the row of an expression contains another row."""
        return within(row, self.rows[number])


def is_typing(program, types, rows):
    """Tell whether the types and the rows of all expressions of a program are right."""
    _, operations, expression = program
    claim = Claim(operations, types, rows)
    expressions = numbered(expression)
    inner = numbers_of_parts(expressions)
    for number, one in enumerate(expressions):
        rule = RULES[one[0]]
        if not rule(claim, one, number, inner[number]):
            return False
        if not rows_hold(claim, one, number, inner[number]):
            return False
        outside = claim.names[number]
        for part, bound in zip(inner[number], bound_types(claim, one, number, inner[number])):
            claim.names[part] = {**outside, **bound}
    return True


def numbers_of_parts(expressions):
    """Return, for each of the expressions of a tree, the list of the numbers of its parts."""
    inner = [[] for _ in expressions]
    # For each expression, the number behind everything inside of it.
    behind = [0 for _ in expressions]
    for number in range(len(expressions) - 1, -1, -1):
        following = number + 1
        for _ in parts(expressions[number]):
            inner[number].append(following)
            following = behind[following]
        behind[number] = following
    return inner


def within(row, wider):
    """Tell whether a row contains all of another one."""
    return len(set(row) - set(wider)) == 0


def rows_hold(claim, expression, number, inner):
    """Tell whether the row of an expression contains those of its parts, as far as it must."""
    if expression[0] in ("fun", "rec"):
        return within(claim.rows[inner[0]], claim.types[number][2])
    brought = [claim.rows[part] for part in inner]
    if expression[0] == "handle":
        answered = [clause[0] for clause in expression[3]]
        brought[0] = [name for name in brought[0] if name not in answered]
    return all([claim.brings(number, row) for row in brought])


def bound_types(claim, expression, number, inner):
    """Return, for each part of an expression whose types fit, the types of the names bound in it."""
    form = expression[0]
    whole = claim.types[number]
    if form == "fun":
        return [{expression[1]: whole[1]}]
    if form == "rec":
        return [{expression[1]: whole, expression[2]: whole[1]}]
    if form == "let":
        return [{}, {expression[1]: claim.types[inner[0]]}]
    if form == "handle":
        bound = [{}, {expression[2][0]: claim.types[inner[0]]}]
        for operation, name, resumption, _ in expression[3]:
            resumed = ("fun", claim.answered[operation], claim.rows[number], whole)
            bound.append({name: claim.given[operation], resumption: resumed})
        return bound
    return [{} for _ in inner]


def literal_rule(claim, expression, number, inner):
    """Numbers, flags and unit."""
    return claim.is_kind(number, LITERALS[expression[0]])


def name_rule(claim, expression, number, inner):
    """A name has the type to which it is bound."""
    names = claim.names[number]
    return expression[1] in names and claim.same(number, names[expression[1]])


def function_rule(claim, expression, number, inner):
    """Its body has the type to which it leads."""
    return claim.is_kind(number, "fun") and claim.same(inner[0], claim.types[number][3])


def call_rule(claim, expression, number, inner):
    """A call brings the row of the function."""
    called, given = inner
    if not claim.is_kind(called, "fun"):
        return False
    _, argument, row, result = claim.types[called]
    return claim.same(given, argument) and claim.same(number, result) and claim.brings(number, row)


def let_rule(claim, expression, number, inner):
    """It has the type of the second part."""
    return claim.same(number, claim.types[inner[1]])


def choice_rule(claim, expression, number, inner):
    """Both branches have the same type."""
    test, branch, other = inner
    whole = claim.types[number]
    return claim.is_kind(test, "bool") and claim.same(branch, whole) and claim.same(other, whole)


def pair_rule(claim, expression, number, inner):
    """A pair of the types of its parts."""
    if not claim.is_kind(number, "pair"):
        return False
    _, first, second = claim.types[number]
    return claim.same(inner[0], first) and claim.same(inner[1], second)


def half_rule(claim, expression, number, inner):
    """The first or the second part of a pair."""
    if not claim.is_kind(inner[0], "pair"):
        return False
    _, first, second = claim.types[inner[0]]
    return claim.same(number, first if expression[0] == "fst" else second)


def operator_rule(claim, expression, number, inner):
    """All operators take integers."""
    kind = "bool" if expression[1] in COMPARISONS else "int"
    return claim.is_kind(number, kind) and all([claim.is_kind(part, "int") for part in inner])


def not_rule(claim, expression, number, inner):
    """The only operator on what is true or false."""
    return claim.is_kind(number, "bool") and claim.is_kind(inner[0], "bool")


def print_rule(claim, expression, number, inner):
    """Only integers are printed."""
    return claim.is_kind(inner[0], "int") and claim.same(number, claim.types[inner[1]])


def ask_rule(claim, expression, number, inner):
    """What is asked for is declared, and stands in the row."""
    operation = expression[1]
    if operation not in claim.given or operation not in claim.rows[number]:
        return False
    return claim.same(inner[0], claim.given[operation]) and claim.same(number, claim.answered[operation])


def handle_rule(claim, expression, number, inner):
    """The return clause and the clauses all have the type of the whole."""
    if not all([clause[0] in claim.given for clause in expression[3]]):
        return False
    return all([claim.same(part, claim.types[number]) for part in inner[1:]])


RULES = {
    "num": literal_rule, "flag": literal_rule, "unit": literal_rule, "name": name_rule,
    "call": call_rule, "fun": function_rule, "rec": function_rule, "let": let_rule,
    "if": choice_rule, "pair": pair_rule, "fst": half_rule, "snd": half_rule,
    "op": operator_rule, "not": not_rule, "print": print_rule, "ask": ask_rule,
    "handle": handle_rule,
}
