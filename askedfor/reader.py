"""Reading: the program that a text is, by the grammar of the document.

The functions that read an expression return it together with its depth.
"""

from askedfor.errors import Malformed, Unbounded
from askedfor.tokens import tokenize

MOST_DEPTH = 60

LITERALS = {"true": ("flag", True), "false": ("flag", False), "unit": ("unit",)}


class Cursor:
    """A place between the tokens of a text, and how many parts are begun there."""

    def __init__(self, text):
        # The end counts as a token, so that there is always a next one to look at.
        self.tokens = [*tokenize(text), ("end", "", len(text))]
        self.place = 0
        self.begun = 0

    def kind(self):
        """Return the kind of the next token."""
        return self.tokens[self.place][0]

    def value(self):
        """Return the value of the next token."""
        return self.tokens[self.place][1]

    def where(self):
        """Return the index of the next token in the text."""
        return self.tokens[self.place][2]

    def sees(self, *values):
        """Tell whether the next token is one of these words and signs."""
        # No name and no number has the value of a word or of a sign.
        return self.value() in values

    def take(self, kind):
        """Go behind the next token, which must be of this kind, and return its value."""
        if self.kind() != kind:
            raise Malformed(self.where())
        value = self.value()
        self.place += 1
        return value

    def expect(self, value):
        """Go behind the next token, which must be this word or sign."""
        if not self.sees(value):
            raise Malformed(self.where())
        self.place += 1

    def begin(self):
        """Begin an expression, a prefix or a type."""
        if self.begun == MOST_DEPTH:
            raise Unbounded("depth")
        self.begun += 1

    def finish(self):
        """Finish the part that was begun last."""
        self.begun -= 1


def read(text):
    """Return the program that the text is."""
    cursor = Cursor(text)
    operations = []
    while cursor.sees("effect"):
        operations.append(read_operation(cursor))
    expression, _ = read_expression(cursor)
    cursor.take("end")
    return ("program", tuple(operations), expression)


def read_operation(cursor):
    """Read the declaration of an operation."""
    cursor.expect("effect")
    name = cursor.take("name")
    cursor.expect(":")
    given = read_plain(cursor)
    cursor.expect("->")
    answered = read_plain(cursor)
    cursor.expect(";")
    return (name, given, answered)


def read_plain(cursor):
    """Read a plain type."""
    # All types on the way to the deepest one are begun at the same time, so begin limits the depth.
    cursor.begin()
    if cursor.sees("("):
        plain = read_plain_pair(cursor)
    elif cursor.sees("int", "bool", "unit"):
        plain = (cursor.take("word"),)
    else:
        raise Malformed(cursor.where())
    cursor.finish()
    return plain


def read_plain_pair(cursor):
    """Read a pair of plain types."""
    cursor.expect("(")
    first = read_plain(cursor)
    cursor.expect(",")
    second = read_plain(cursor)
    cursor.expect(")")
    return ("pair", first, second)


def deeper(*depths):
    """Return the depth of a complete expression whose parts have these depths."""
    depth = 1 + max(depths)
    if depth > MOST_DEPTH:
        raise Unbounded("depth")
    return depth


def read_function(cursor):
    """Read a function without a name."""
    cursor.expect("fun")
    argument = cursor.take("name")
    cursor.expect("=>")
    body, depth = read_expression(cursor)
    return ("fun", argument, body), deeper(depth)


def read_recursive(cursor):
    """Read a function that has a name."""
    cursor.expect("rec")
    name = cursor.take("name")
    argument = cursor.take("name")
    cursor.expect("=>")
    body, depth = read_expression(cursor)
    return ("rec", name, argument, body), deeper(depth)


def read_let(cursor):
    """Read an expression that binds a name."""
    cursor.expect("let")
    name = cursor.take("name")
    cursor.expect("=")
    bound, depth = read_expression(cursor)
    cursor.expect("in")
    body, other_depth = read_expression(cursor)
    return ("let", name, bound, body), deeper(depth, other_depth)


def read_choice(cursor):
    """Read an expression with two branches."""
    cursor.expect("if")
    test, depth = read_expression(cursor)
    cursor.expect("then")
    branch, branch_depth = read_expression(cursor)
    cursor.expect("else")
    other, other_depth = read_expression(cursor)
    return ("if", test, branch, other), deeper(depth, branch_depth, other_depth)


def read_print(cursor):
    """Read an expression that prints."""
    cursor.expect("print")
    printed, depth = read_sum(cursor)
    cursor.expect(";")
    body, other_depth = read_expression(cursor)
    return ("print", printed, body), deeper(depth, other_depth)


def read_handle(cursor):
    """Read an expression inside of a handler."""
    cursor.expect("handle")
    inner, depth = read_expression(cursor)
    cursor.expect("{")
    cursor.expect("return")
    name = cursor.take("name")
    cursor.expect("=>")
    body, body_depth = read_expression(cursor)
    clauses = []
    depths = [depth, body_depth]
    while cursor.sees("|"):
        clause, clause_depth = read_clause(cursor)
        clauses.append(clause)
        depths.append(clause_depth)
    cursor.expect("}")
    return ("handle", inner, (name, body), tuple(clauses)), deeper(*depths)


def read_clause(cursor):
    """Read the clause of a handler; return it and the depth of its expression."""
    cursor.expect("|")
    operation = cursor.take("name")
    argument = cursor.take("name")
    resumption = cursor.take("name")
    cursor.expect("=>")
    body, depth = read_expression(cursor)
    return (operation, argument, resumption, body), depth


FORMS = {
    "fun": read_function,
    "rec": read_recursive,
    "let": read_let,
    "if": read_choice,
    "print": read_print,
    "handle": read_handle,
}


def read_expression(cursor):
    """Read any expression."""
    cursor.begin()
    if cursor.value() in FORMS:
        read_form = FORMS[cursor.value()]
        expression, depth = read_form(cursor)
    else:
        expression, depth = read_comparison(cursor)
    cursor.finish()
    return expression, depth


def read_comparison(cursor):
    """Read a sum, or two that are compared."""
    expression, depth = read_sum(cursor)
    if cursor.sees("<", "=="):
        sign = cursor.take("sign")
        other, other_depth = read_sum(cursor)
        expression, depth = ("op", sign, expression, other), deeper(depth, other_depth)
    return expression, depth


def read_sum(cursor):
    """Read products that are added or subtracted."""
    expression, depth = read_product(cursor)
    while cursor.sees("+", "-"):
        sign = cursor.take("sign")
        other, other_depth = read_product(cursor)
        expression, depth = ("op", sign, expression, other), deeper(depth, other_depth)
    return expression, depth


def read_product(cursor):
    """Read prefixes that are multiplied."""
    expression, depth = read_prefix(cursor)
    while cursor.sees("*"):
        sign = cursor.take("sign")
        other, other_depth = read_prefix(cursor)
        expression, depth = ("op", sign, expression, other), deeper(depth, other_depth)
    return expression, depth


def read_prefix(cursor):
    """Read a call, with or without words in front of it."""
    cursor.begin()
    if cursor.sees("fst", "snd", "not"):
        word = cursor.take("word")
        inner, inner_depth = read_prefix(cursor)
        expression, depth = (word, inner), deeper(inner_depth)
    elif cursor.sees("ask"):
        expression, depth = read_ask(cursor)
    else:
        expression, depth = read_call(cursor)
    cursor.finish()
    return expression, depth


def read_ask(cursor):
    """Read an expression that asks for an operation."""
    cursor.expect("ask")
    operation = cursor.take("name")
    given, depth = read_prefix(cursor)
    return ("ask", operation, given), deeper(depth)


def read_call(cursor):
    """Read an atom and the atoms that it is called with."""
    expression, depth = read_atom(cursor)
    while begins_atom(cursor):
        argument, other_depth = read_atom(cursor)
        expression, depth = ("call", expression, argument), deeper(depth, other_depth)
    return expression, depth


def begins_atom(cursor):
    """Tell whether an atom begins with the next token."""
    return cursor.kind() in ("number", "name") or cursor.value() in LITERALS or cursor.sees("(")


def read_atom(cursor):
    """Read an atom."""
    if cursor.kind() == "number":
        return ("num", cursor.take("number")), 1
    if cursor.kind() == "name":
        return ("name", cursor.take("name")), 1
    if cursor.value() in LITERALS:
        return LITERALS[cursor.take("word")], 1
    return read_parentheses(cursor)


def read_parentheses(cursor):
    """Read a pair, or an expression in parentheses."""
    cursor.expect("(")
    expression, depth = read_expression(cursor)
    if not cursor.sees(","):
        cursor.expect(")")
        return expression, depth
    cursor.expect(",")
    other, other_depth = read_expression(cursor)
    cursor.expect(")")
    return ("pair", expression, other), deeper(depth, other_depth)
