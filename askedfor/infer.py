"""Types and rows: what an expression gives, and which operations it may ask for.

Each form of expression has a rule. A rule goes through the parts of the expression from left to
right, asks for the conditions of the expression in their order, and returns its type. It is passed
what is known so far, the expression, the types of the names that are bound, and the row of the
expression. Types and rows are stood for by the integers of `Types` and `Rows`.
"""

from askedfor.errors import Mismatched, Twice, Unbounded, Unknown
from askedfor.fitting import Types
from askedfor.rows import Rows

MOST_SIZE = 1000

LITERALS = {"num": "int", "flag": "bool", "unit": "unit"}
COMPARISONS = ("<", "==")


class Work:
    """What is known of a program so far."""

    def __init__(self, operations):
        self.rows = Rows()
        self.types = Types(self.rows)
        # What each operation is asked with, and what it is answered with.
        self.given = {}
        self.answered = {}
        for name, given, answered in operations:
            if name in self.given:
                raise Twice(name)
            self.given[name] = self.types.plain(given)
            self.answered[name] = self.types.plain(answered)
        # The types and the rows of the expressions, by their numbers.
        self.found = []
        self.asked = []

    def begin(self):
        """Begin the next expression, and return its number."""
        self.found.append(None)
        self.asked.append(self.rows.fresh())
        return len(self.found) - 1

    def fit(self, number, wanted):
        """Ask that the expression with this number fits a type."""
        if not self.types.fit(self.found[number], wanted):
            raise Mismatched(number)

    def fit_kind(self, number, kind):
        """Ask that the expression with this number fits a type without types inside of it."""
        self.fit(number, self.types.made(kind))

    def limit_sizes(self, types):
        """Refuse types that are too large."""
        if max(self.types.sizes(types)) > MOST_SIZE:
            raise Unbounded("types")

    def check_declared(self, operation):
        """Refuse an operation that is not declared."""
        if operation not in self.given:
            raise Unknown(operation)


def infer(program):
    """Return the list of the types of all expressions, and that of their rows."""
    _, operations, expression = program
    work = Work(operations)
    go_through(work, expression, {})
    work.limit_sizes(work.found)
    rows = work.rows.least()
    return work.types.results(work.found, rows), [rows[row] for row in work.asked]


def go_through(work, expression, names):
    """Find the type of an expression and of all in it, and return its number."""
    number = work.begin()
    rule = RULES[expression[0]]
    work.found[number] = rule(work, expression, names, work.asked[number])
    work.limit_sizes([work.found[number]])
    return number


def go_into(work, part, names, row):
    """Go through a part of the expression with this row, and return the number of the part."""
    number = go_through(work, part, names)
    work.rows.flow(work.asked[number], row, [])
    return number


def literal_rule(work, expression, names, row):
    """Numbers, flags and unit."""
    return work.types.made(LITERALS[expression[0]])


def name_rule(work, expression, names, row):
    """A name has the type to which it is bound."""
    name = expression[1]
    if name not in names:
        raise Unknown(name)
    return names[name]


def function_rule(work, expression, names, row):
    """What the function asks for is the row of its type, not of the expression."""
    _, name, body = expression
    given = work.types.undecided()
    own_row = work.rows.fresh()
    number = go_into(work, body, {**names, name: given}, own_row)
    return work.types.made("fun", (given, work.found[number]), own_row)


def recursive_rule(work, expression, names, row):
    """The same, where the name of the function is bound, too."""
    _, name, argument, body = expression
    given = work.types.undecided()
    result = work.types.undecided()
    own_row = work.rows.fresh()
    whole = work.types.made("fun", (given, result), own_row)
    number = go_into(work, body, {**names, name: whole, argument: given}, own_row)
    work.fit(number, result)
    return whole


def call_rule(work, expression, names, row):
    """A call brings the row of the function."""
    _, called, given = expression
    function = go_into(work, called, names, row)
    argument = go_into(work, given, names, row)
    result = work.types.undecided()
    brought = work.rows.fresh()
    work.fit(function, work.types.made("fun", (work.found[argument], result), brought))
    work.rows.flow(brought, row, [])
    return result


def let_rule(work, expression, names, row):
    """The name is bound in the second part."""
    _, name, bound, body = expression
    first = go_into(work, bound, names, row)
    second = go_into(work, body, {**names, name: work.found[first]}, row)
    return work.found[second]


def choice_rule(work, expression, names, row):
    """Both branches have the same type."""
    test, branch, other = [go_into(work, part, names, row) for part in expression[1:]]
    work.fit_kind(test, "bool")
    work.fit(other, work.found[branch])
    return work.found[branch]


def pair_rule(work, expression, names, row):
    """A pair of the types of its parts."""
    first, second = [go_into(work, part, names, row) for part in expression[1:]]
    return work.types.made("pair", (work.found[first], work.found[second]))


def half_rule(work, expression, names, row):
    """The first or the second part of a pair."""
    word, pair = expression
    number = go_into(work, pair, names, row)
    first = work.types.undecided()
    second = work.types.undecided()
    work.fit(number, work.types.made("pair", (first, second)))
    return first if word == "fst" else second


def operator_rule(work, expression, names, row):
    """All operators take integers."""
    _, sign, left, right = expression
    for number in [go_into(work, part, names, row) for part in (left, right)]:
        work.fit_kind(number, "int")
    return work.types.made("bool" if sign in COMPARISONS else "int")


def not_rule(work, expression, names, row):
    """The only operator on what is true or false."""
    number = go_into(work, expression[1], names, row)
    work.fit_kind(number, "bool")
    return work.types.made("bool")


def print_rule(work, expression, names, row):
    """Only integers are printed."""
    printed, body = [go_into(work, part, names, row) for part in expression[1:]]
    work.fit_kind(printed, "int")
    return work.found[body]


def ask_rule(work, expression, names, row):
    """Asking for an operation puts it into the row."""
    _, operation, given = expression
    number = go_into(work, given, names, row)
    work.check_declared(operation)
    work.fit(number, work.given[operation])
    work.rows.contain(row, operation)
    return work.answered[operation]


def handle_rule(work, expression, names, row):
    """The operations of the clauses do not leave the handler, unless a clause asks for them."""
    _, inner, (name, body), clauses = expression
    handled = go_through(work, inner, names)
    work.rows.flow(work.asked[handled], row, [clause[0] for clause in clauses])
    returned = go_into(work, body, {**names, name: work.found[handled]}, row)
    result = work.found[returned]
    seen = {}
    for operation, argument, resumption, answer in clauses:
        work.check_declared(operation)
        if operation in seen:
            raise Twice(operation)
        seen[operation] = True
        resumed = work.types.made("fun", (work.answered[operation], result), row)
        bound = {**names, argument: work.given[operation], resumption: resumed}
        number = go_into(work, answer, bound, row)
        work.fit(number, result)
    return result


RULES = {
    "num": literal_rule, "flag": literal_rule, "unit": literal_rule, "name": name_rule,
    "call": call_rule, "fun": function_rule, "rec": recursive_rule, "let": let_rule,
    "if": choice_rule, "pair": pair_rule, "fst": half_rule, "snd": half_rule,
    "op": operator_rule, "not": not_rule, "print": print_rule, "ask": ask_rule,
    "handle": handle_rule,
}
