"""Trees: points TR1 (parts and numbers), TR2 (free names) and TR3 (putting in)."""

import unittest

from askedfor.reader import read
from askedfor.trees import free_names, numbered, parts, put_in, with_parts

A, B, C, F, G, H, K, X, Y, Z = (("name", name) for name in "abcfghkxyz")
ONE, TWO = ("num", 1), ("num", 2)
KEPT = ("kept", (("frame", X), ("frame", ("handle", Y, ("x", X), ()))))

# Each form with its parts.
FORMS = (
    (("num", 7), []),
    (("flag", True), []),
    (("flag", False), []),
    (("unit",), []),
    (X, []),
    (KEPT, []),
    (("kept", ()), []),
    (("call", A, B), [A, B]),
    (("fun", "x", A), [A]),
    (("rec", "h", "x", A), [A]),
    (("let", "x", A, B), [A, B]),
    (("if", A, B, C), [A, B, C]),
    (("pair", A, B), [A, B]),
    (("fst", A), [A]),
    (("snd", A), [A]),
    *((("op", sign, A, B), [A, B]) for sign in ("+", "-", "*", "<", "==")),
    (("not", A), [A]),
    (("print", A, B), [A, B]),
    (("ask", "o", A), [A]),
    (("handle", A, ("x", B), ()), [A, B]),
    (("handle", A, ("x", B), (("o", "y", "k", C),)), [A, B, C]),
    (
        ("handle", A, ("x", B), (("o", "y", "k", C), ("p", "z", "z", F), ("q", "a", "b", G))),
        [A, B, C, F, G],
    ),
)


def tree(text):
    """The expression that a text is."""
    return read(text)[2]


class PartsTest(unittest.TestCase):
    def test_parts_of_each_form(self):
        for expression, inner in FORMS:
            with self.subTest(expression):
                self.assertIs(type(parts(expression)), list)
                self.assertEqual(parts(expression), inner)

    def test_other_parts_at_the_same_places(self):
        for expression, inner in FORMS:
            with self.subTest(expression):
                others = [("call", ("num", at), X) for at in range(len(inner))]
                changed = with_parts(expression, others)
                self.assertEqual(parts(changed), others)
                self.assertEqual(with_parts(changed, inner), expression)

    def test_other_parts_written_out(self):
        self.assertEqual(with_parts(("call", A, B), [ONE, TWO]), ("call", ONE, TWO))
        self.assertEqual(with_parts(("fun", "x", A), [ONE]), ("fun", "x", ONE))
        self.assertEqual(with_parts(("rec", "h", "x", A), [ONE]), ("rec", "h", "x", ONE))
        self.assertEqual(with_parts(("op", "-", A, B), [ONE, TWO]), ("op", "-", ONE, TWO))
        self.assertEqual(with_parts(("ask", "o", A), [ONE]), ("ask", "o", ONE))
        self.assertEqual(
            with_parts(
                ("handle", A, ("x", B), (("o", "y", "k", C), ("p", "z", "j", F))),
                [ONE, TWO, X, Y],
            ),
            ("handle", ONE, ("x", TWO), (("o", "y", "k", X), ("p", "z", "j", Y))),
        )

    def test_the_own_parts_give_the_same_expression(self):
        for expression, _ in FORMS:
            with self.subTest(expression):
                self.assertEqual(with_parts(expression, parts(expression)), expression)

    def test_only_tuples_come_out(self):
        for expression, inner in FORMS:
            with self.subTest(expression):
                self.assertNotIn("[", repr(with_parts(expression, inner)))

    def test_lists_are_not_shared(self):
        for expression, inner in FORMS:
            with self.subTest(expression):
                parts(expression).append(X)
                self.assertEqual(parts(expression), inner)
                passed = list(inner)
                changed = with_parts(expression, passed)
                self.assertEqual(passed, inner)
                passed.clear()
                self.assertEqual(changed, expression)


class NumberedTest(unittest.TestCase):
    def test_without_parts(self):
        for expression, inner in FORMS:
            if not inner:
                self.assertEqual(numbered(expression), [expression])

    def test_parts_that_are_names(self):
        for expression, inner in FORMS:
            with self.subTest(expression):
                self.assertEqual(numbered(expression), [expression, *inner])

    def test_everything_in_a_part_before_the_next_part(self):
        left, right = ("op", "+", ("not", X), Y), ("if", A, ("fst", B), C)
        self.assertEqual(
            numbered(("pair", left, right)),
            [
                ("pair", left, right),
                left, ("not", X), X, Y,
                right, A, ("fst", B), B, C,
            ],
        )

    def test_a_handle(self):
        expression = tree(
            "handle f 1 { return x => not x | o y k => k (y, 2) | p y k => fun z => y }"
        )
        self.assertEqual(
            numbered(expression),
            [
                expression,
                ("call", F, ONE), F, ONE,
                ("not", X), X,
                ("call", K, ("pair", Y, TWO)), K, ("pair", Y, TWO), Y, TWO,
                ("fun", "z", Y), Y,
            ],
        )

    def test_each_form_inside_each_form(self):
        for outer, inner in FORMS:
            for expression, _ in FORMS:
                filled = with_parts(outer, [expression] * len(inner))
                expected = [filled]
                for _ in inner:
                    expected += numbered(expression)
                self.assertEqual(numbered(filled), expected)

    def test_equal_expressions_have_numbers_of_their_own(self):
        self.assertEqual(numbered(("pair", X, X)), [("pair", X, X), X, X])

    def test_the_list_is_not_shared(self):
        expression = ("pair", X, Y)
        numbered(expression).clear()
        self.assertEqual(numbered(expression), [expression, X, Y])

    def test_60_deep(self):
        expression = ONE
        for _ in range(59):
            expression = ("op", "+", expression, TWO)
        self.assertEqual(len(numbered(expression)), 119)
        self.assertEqual(numbered(expression)[59:62], [ONE, TWO, TWO])


class FreeNamesTest(unittest.TestCase):
    def check(self, text, *names):
        with self.subTest(text):
            found = free_names(tree(text))
            self.assertIs(type(found), list)
            self.assertEqual(found, list(names))

    def test_example(self):
        self.assertEqual(
            free_names(("call", ("fun", "x", ("call", Y, X)), X)), ["x", "y"]
        )

    def test_without_names(self):
        for text in ("1", "true", "unit", "fun x => 1", "ask o 1", "1 + 2 * 3"):
            self.check(text)

    def test_at_each_place(self):
        for expression, inner in FORMS:
            for at in range(len(inner)):
                with self.subTest(expression, at=at):
                    others = [ONE] * len(inner)
                    others[at] = ("name", "free")
                    self.assertEqual(free_names(with_parts(expression, others)), ["free"])

    def test_ascending_and_once(self):
        self.check("z (b a) (a b) z", "a", "b", "z")
        self.check("x2 (x10 x1)", "x1", "x10", "x2")
        self.check("b (a_ a) a1", "a", "a1", "a_", "b")

    def test_fun(self):
        self.check("fun x => x")
        self.check("fun x => y", "y")
        self.check("(fun x => x) x", "x")
        self.check("x (fun x => x)", "x")
        self.check("fun x => fun y => x y z", "z")

    def test_rec(self):
        self.check("rec h x => h x")
        self.check("rec h x => h x y", "y")
        self.check("rec x x => x")
        self.check("(rec h x => h x) h x", "h", "x")

    def test_let(self):
        self.check("let x = 1 in x")
        self.check("let x = x in 1", "x")
        self.check("let x = x in x", "x")
        self.check("let x = y in x", "y")
        self.check("(let x = 1 in x) x", "x")

    def test_return_clause(self):
        self.check("handle 1 { return x => x }")
        self.check("handle x { return x => x }", "x")
        self.check("handle 1 { return x => y | o y k => x }", "x", "y")

    def test_clauses(self):
        self.check("handle 1 { return a => 1 | o x k => k x }")
        self.check("handle x { return a => k | o x k => 1 }", "k", "x")
        self.check("handle 1 { return a => 1 | o x k => 1 | p y j => k x }", "k", "x")
        self.check("handle 1 { return a => 1 | o x k => j y | p y j => 1 }", "j", "y")
        self.check("handle 1 { return a => 1 | o x x => x }")
        self.check("handle 1 { return a => 1 | o x k => a }", "a")

    def test_operations_are_no_names(self):
        self.check("ask o x", "x")
        self.check("handle 1 { return a => 1 | o x k => p }", "p")

    def test_free_bound_and_hidden(self):
        self.check("(fun x => x) (let x = x in fun x => x)", "x")
        self.check("fun x => (let x = x in x) (rec x y => x y)")
        self.check("let y = (fun x => x y) in handle y { return x => x y | o y x => x y }", "y")

    def test_kept_has_none(self):
        self.assertEqual(free_names(KEPT), [])
        self.assertEqual(free_names(("call", KEPT, Z)), ["z"])


class PutInTest(unittest.TestCase):
    def check(self, text, name, given, wanted):
        """Put one text in for a name in another one."""
        with self.subTest(text, name=name):
            self.assertEqual(put_in(tree(text), name, tree(given)), tree(wanted))

    def test_example(self):
        self.assertEqual(
            put_in(("call", ("fun", "x", ("call", Y, X)), X), "x", ("num", 3)),
            ("call", ("fun", "x", ("call", Y, X)), ("num", 3)),
        )

    def test_a_name(self):
        self.check("x", "x", "1", "1")
        self.check("y", "x", "1", "y")
        self.check("x", "x", "fun y => y", "fun y => y")

    def test_at_each_place(self):
        for expression, inner in FORMS:
            for at in range(len(inner)):
                with self.subTest(expression, at=at):
                    before, after = list(inner), list(inner)
                    before[at], after[at] = ("name", "free"), ("fun", "x", X)
                    self.assertEqual(
                        put_in(with_parts(expression, before), "free", ("fun", "x", X)),
                        with_parts(expression, after),
                    )

    def test_several_occurrences(self):
        self.check("x + y * (x - z)", "x", "(1, 2)", "(1, 2) + y * ((1, 2) - z)")

    def test_fun(self):
        self.check("fun x => x", "x", "1", "fun x => x")
        self.check("fun y => x y", "x", "1", "fun y => 1 y")
        self.check("(fun x => x) x", "x", "1", "(fun x => x) 1")

    def test_rec(self):
        self.check("rec h x => h x", "x", "1", "rec h x => h x")
        self.check("rec h x => h x", "h", "1", "rec h x => h x")
        self.check("rec x x => x", "x", "1", "rec x x => x")
        self.check("rec h x => y (h x)", "y", "1", "rec h x => 1 (h x)")

    def test_let(self):
        self.check("let x = x in x", "x", "1", "let x = 1 in x")
        self.check("let x = y in x y", "y", "1", "let x = 1 in x 1")

    def test_return_clause(self):
        self.check("handle x { return x => x }", "x", "1", "handle 1 { return x => x }")
        self.check("handle x { return y => x y }", "x", "1", "handle 1 { return y => 1 y }")
        self.check(
            "handle x { return x => x | o y k => x }", "x", "1",
            "handle 1 { return x => x | o y k => 1 }",
        )

    def test_clauses(self):
        text = "handle x k { return y => x k | o x k => x k | p x j => x k | q j k => x k }"
        self.check(
            text, "x", "1",
            "handle 1 k { return y => 1 k | o x k => x k | p x j => x k | q j k => 1 k }",
        )
        self.check(
            text, "k", "1",
            "handle x 1 { return y => x 1 | o x k => x k | p x j => x 1 | q j k => x k }",
        )
        self.check(
            "handle x { return y => x | o x x => x | p z z => x }", "x", "1",
            "handle 1 { return y => 1 | o x x => x | p z z => 1 }",
        )

    def test_operations_and_binders_are_no_occurrences(self):
        self.check("ask x x", "x", "1", "ask x 1")
        self.check(
            "handle x { return y => 1 | x a b => x }", "x", "2",
            "handle 2 { return y => 1 | x a b => 2 }",
        )

    def test_hidden_and_free_again(self):
        self.check(
            "(let x = (fun x => x) x in x) (x (let y = x in fun x => y))", "x", "1",
            "(let x = (fun x => x) 1 in x) (1 (let y = 1 in fun x => y))",
        )

    def test_a_name_that_is_not_free(self):
        for text in ("fun x => x", "y", "1", "rec h x => h", "let x = 1 in x", "ask x 1"):
            self.check(text, "x", "true", text)
        for expression, _ in FORMS:
            self.assertEqual(put_in(expression, "nowhere", ONE), expression)

    def test_the_tree_is_not_looked_into(self):
        # The tree has no free names, and what it binds stays as it is.
        self.check("x x", "x", "fun x => x", "(fun x => x) (fun x => x)")
        self.check("fun y => x", "x", "fun x => fun y => x", "fun y => fun x => fun y => x")

    def test_kept_is_not_changed(self):
        self.assertEqual(put_in(X, "x", KEPT), KEPT)
        self.assertEqual(put_in(KEPT, "x", ONE), KEPT)
        self.assertEqual(
            put_in(("call", KEPT, ("pair", X, Y)), "x", KEPT),
            ("call", KEPT, ("pair", KEPT, Y)),
        )
        self.assertEqual(
            put_in(("handle", X, ("y", ("pair", Y, X)), (("o", "a", "b", KEPT),)), "y", ONE),
            ("handle", X, ("y", ("pair", Y, X)), (("o", "a", "b", KEPT),)),
        )

    def test_60_deep(self):
        before, after = X, ONE
        for at in range(59):
            binder = f"x{at}"
            before, after = ("let", binder, X, before), ("let", binder, ONE, after)
        self.assertEqual(put_in(before, "x", ONE), after)
        self.assertEqual(free_names(before), ["x"])


class ArgumentsTest(unittest.TestCase):
    def test_arguments_are_not_changed(self):
        for expression, inner in FORMS:
            kept = repr(expression)
            parts(expression)
            with_parts(expression, inner)
            numbered(expression)
            free_names(expression)
            put_in(expression, "a", KEPT)
            self.assertEqual(repr(expression), kept)


if __name__ == "__main__":
    unittest.main()
