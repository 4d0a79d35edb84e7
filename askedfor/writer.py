"""Writing: the text of a program, by the grammar of the document.

Parts of the grammar are meant by their names there.
"""

# Where one of these is asked for, what is only one of those before it stands in parentheses.
GRAMMAR = ("expression", "comparison", "sum", "product", "prefix", "call", "atom")

# Which part of the grammar a form of expression is; the other forms are no more than expressions.
PART_OF_FORM = {
    "num": "atom", "flag": "atom", "unit": "atom", "name": "atom", "pair": "atom", "call": "call",
    "fst": "prefix", "snd": "prefix", "not": "prefix", "ask": "prefix",
}
# The same for the operators, and which parts stand to the left and to the right of them.
PART_OF_SIGN = {"<": "comparison", "==": "comparison", "+": "sum", "-": "sum", "*": "product"}
LEFT_OF_SIGN = {"<": "sum", "==": "sum", "+": "sum", "-": "sum", "*": "product"}
RIGHT_OF_SIGN = {"<": "sum", "==": "sum", "+": "product", "-": "product", "*": "prefix"}


def show(program):
    """Return a text that is read as the program."""
    _, operations, expression = program
    declared = [
        f"effect {name} : {plain_text(given)} -> {plain_text(answered)}; "
        for name, given, answered in operations
    ]
    return "".join(declared) + text_as("expression", expression)


def plain_text(plain):
    """Return the text of a plain type."""
    if plain[0] == "pair":
        return f"({plain_text(plain[1])}, {plain_text(plain[2])})"
    return plain[0]


def text_as(part, expression):
    """Return a text of the expression where this part of the grammar is asked for."""
    write = WRITERS[expression[0]]
    written = write(expression)
    if GRAMMAR.index(part_of(expression)) < GRAMMAR.index(part):
        return f"({written})"
    return written


def part_of(expression):
    """Return the part of the grammar that the expression is without parentheses around it."""
    if expression[0] == "op":
        return PART_OF_SIGN[expression[1]]
    return PART_OF_FORM.get(expression[0], "expression")


def write_value(expression):
    """Write a number or a name."""
    return str(expression[1])


def write_flag(expression):
    """Write `true` or `false`."""
    return "true" if expression[1] else "false"


def write_unit(expression):
    """Write the only value of its type."""
    return expression[0]


def write_call(expression):
    """Write a call."""
    _, called, given = expression
    return f"{text_as('call', called)} {text_as('atom', given)}"


def write_function(expression):
    """Write a function without a name."""
    _, argument, body = expression
    return f"fun {argument} => {text_as('expression', body)}"


def write_recursive(expression):
    """Write a function that has a name."""
    _, name, argument, body = expression
    return f"rec {name} {argument} => {text_as('expression', body)}"


def write_let(expression):
    """Write an expression that binds a name."""
    _, name, bound, body = expression
    return f"let {name} = {text_as('expression', bound)} in {text_as('expression', body)}"


def write_choice(expression):
    """Write an expression with two branches."""
    test, branch, other = [text_as("expression", part) for part in expression[1:]]
    return f"if {test} then {branch} else {other}"


def write_pair(expression):
    """Write a pair."""
    _, first, second = expression
    return f"({text_as('expression', first)}, {text_as('expression', second)})"


def write_prefix(expression):
    """Write a word that stands in front of an expression."""
    word, inner = expression
    return f"{word} {text_as('prefix', inner)}"


def write_operator(expression):
    """Write an operator between two expressions."""
    _, sign, left, right = expression
    return f"{text_as(LEFT_OF_SIGN[sign], left)} {sign} {text_as(RIGHT_OF_SIGN[sign], right)}"


def write_print(expression):
    """Write an expression that prints."""
    _, printed, body = expression
    return f"print {text_as('sum', printed)}; {text_as('expression', body)}"


def write_ask(expression):
    """Write an expression that asks for an operation."""
    _, operation, given = expression
    return f"ask {operation} {text_as('prefix', given)}"


def write_handle(expression):
    """Write an expression inside of a handler."""
    _, inner, (name, body), clauses = expression
    answers = [
        f" | {operation} {argument} {resumption} => {text_as('expression', answer)}"
        for operation, argument, resumption, answer in clauses
    ]
    answered = f"return {name} => {text_as('expression', body)}" + "".join(answers)
    return f"handle {text_as('expression', inner)} " + "{ " + answered + " }"


WRITERS = {
    "num": write_value, "flag": write_flag, "unit": write_unit, "name": write_value,
    "call": write_call, "fun": write_function, "rec": write_recursive, "let": write_let,
    "if": write_choice, "pair": write_pair, "fst": write_prefix, "snd": write_prefix,
    "op": write_operator, "not": write_prefix, "print": write_print, "ask": write_ask,
    "handle": write_handle,
}
