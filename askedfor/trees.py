"""Trees: the parts of expressions, the names that occur in them, and what is put in for names."""

# At which index of its tuple the parts of an expression begin; a `handle` is built in another way.
# ("known", value) stands for a value that was put in. Values have no free names and are not
# evaluated again, so there is no need to look at what is inside, which may be very deep.
FIRST_PART = {
    "num": 2, "flag": 2, "unit": 1, "name": 2, "call": 1, "fun": 2, "rec": 3, "let": 2, "if": 1,
    "pair": 1, "fst": 1, "snd": 1, "op": 2, "not": 1, "print": 1, "ask": 2, "kept": 2, "known": 2,
}


def parts(expression):
    """Return the list of the expressions directly inside of an expression."""
    if expression[0] == "handle":
        _, inner, returned, clauses = expression
        return [inner, returned[1], *[clause[3] for clause in clauses]]
    return list(expression[FIRST_PART[expression[0]]:])


def with_parts(expression, inner):
    """Return the expression with other parts, which are a list of as many."""
    if expression[0] == "handle":
        handled, body, *answers = inner
        name, clauses = expression[2][0], expression[3]
        answering = [(*clause[:3], answer) for clause, answer in zip(clauses, answers)]
        return ("handle", handled, (name, body), tuple(answering))
    return (*expression[:FIRST_PART[expression[0]]], *inner)


def numbered(expression):
    """Return the list of all expressions in an expression; the one with number n has index n."""
    found = []
    waiting = [expression]
    while waiting:
        one = waiting.pop()
        found.append(one)
        # What is taken from the end of the list comes next, so the first part stands last.
        waiting.extend(parts(one)[::-1])
    return found


def bound_in_parts(expression):
    """Return a list that has, for each part of an expression, the names that are bound in it."""
    form = expression[0]
    if form == "fun":
        return [(expression[1],)]
    if form == "rec":
        return [(expression[1], expression[2])]
    if form == "let":
        return [(), (expression[1],)]
    if form == "handle":
        returned, clauses = expression[2:]
        return [(), returned[:1], *[clause[1:3] for clause in clauses]]
    return [() for _ in parts(expression)]


def free_names(expression):
    """Return the list of the names that occur free, each once, in ascending order."""
    found = {}
    note_free_names(expression, (), found)
    return sorted(found)


def note_free_names(expression, bound, found):
    """Make the names that occur free, except for bound ones, keys of the dict `found`."""
    if expression[0] == "name" and expression[1] not in bound:
        found[expression[1]] = True
    for part, names in zip(parts(expression), bound_in_parts(expression)):
        note_free_names(part, (*bound, *names), found)


def put_in(expression, name, tree):
    """Return the expression with the tree for each free occurrence of the name."""
    return put_all_in(expression, {name: tree})


def put_all_in(expression, trees):
    """Return the expression with a tree for each free occurrence of each name that has one."""
    if expression[0] == "name":
        return trees.get(expression[1], expression)
    changed = []
    for part, names in zip(parts(expression), bound_in_parts(expression)):
        inner = {name: trees[name] for name in trees if name not in names} if names else trees
        changed.append(put_all_in(part, inner) if inner else part)
    return with_parts(expression, changed)
