"""Writing: point WT1 (texts), and what `show` writes is what `read` reads back."""

import itertools
import unittest

from askedfor.reader import read
from askedfor.writer import show

INT, BOOL, UNIT = ("int",), ("bool",), ("unit",)
ONE, TWO = ("num", 1), ("num", 2)
X, Y, F = ("name", "x"), ("name", "y"), ("name", "f")
SIGNS = ("+", "-", "*", "<", "==")

# Each form of expression.
FORMS = (
    ONE,
    ("flag", True),
    ("flag", False),
    UNIT,
    X,
    ("call", F, X),
    ("fun", "x", X),
    ("rec", "h", "x", X),
    ("let", "x", ONE, X),
    ("if", X, ONE, TWO),
    ("pair", X, ONE),
    ("fst", X),
    ("snd", X),
    *(("op", sign, X, Y) for sign in SIGNS),
    ("not", X),
    ("print", X, Y),
    ("ask", "o", X),
    ("handle", X, ("x", Y), ()),
    ("handle", X, ("x", Y), (("o", "x", "k", ONE),)),
    ("handle", X, ("x", Y), (("o", "x", "k", ONE), ("p", "y", "y", TWO))),
)

# Each place inside of each form.
PLACES = (
    lambda e: ("call", e, X),
    lambda e: ("call", F, e),
    lambda e: ("fun", "x", e),
    lambda e: ("rec", "h", "x", e),
    lambda e: ("let", "x", e, X),
    lambda e: ("let", "x", ONE, e),
    lambda e: ("if", e, ONE, TWO),
    lambda e: ("if", X, e, TWO),
    lambda e: ("if", X, ONE, e),
    lambda e: ("pair", e, X),
    lambda e: ("pair", X, e),
    lambda e: ("fst", e),
    lambda e: ("snd", e),
    *((lambda e, sign=sign: ("op", sign, e, X)) for sign in SIGNS),
    *((lambda e, sign=sign: ("op", sign, X, e)) for sign in SIGNS),
    lambda e: ("not", e),
    lambda e: ("print", e, X),
    lambda e: ("print", X, e),
    lambda e: ("ask", "o", e),
    lambda e: ("handle", e, ("x", X), ()),
    lambda e: ("handle", X, ("x", e), ()),
    lambda e: ("handle", X, ("x", e), (("o", "x", "k", X),)),
    lambda e: ("handle", X, ("x", X), (("o", "x", "k", e),)),
    lambda e: ("handle", X, ("x", X), (("o", "x", "k", e), ("p", "x", "k", X))),
    lambda e: ("handle", X, ("x", X), (("o", "x", "k", X), ("p", "x", "k", e))),
)


def program(expression, *operations):
    return ("program", operations, expression)


class WriteCase(unittest.TestCase):
    def check(self, written):
        """The text of the program has the right form and is read as the program."""
        kept = repr(written)
        text = show(written)
        self.assertIs(type(text), str)
        self.assertNotIn("\n", text)
        self.assertNotIn("  ", text)
        self.assertLessEqual(len(text), 10000)
        # With repr, so that 1 and True differ.
        self.assertEqual(repr(read(text)), kept, text)
        self.assertEqual(show(read(text)), text)
        self.assertEqual(repr(written), kept)


class ExpressionsTest(WriteCase):
    def test_example(self):
        text = "effect o : int -> bool; if ask o 3 then 1 else 2 * (3 + 4)"
        self.assertEqual(read(show(read(text))), read(text))

    def test_each_form(self):
        for form in FORMS:
            self.check(program(form))

    def test_each_form_at_each_place(self):
        for place, form in itertools.product(PLACES, FORMS):
            self.check(program(place(form)))

    def test_each_form_at_each_place_of_each_place(self):
        for outer, inner, form in itertools.product(PLACES, PLACES, FORMS):
            self.check(program(outer(inner(form))))

    def test_each_form_on_both_sides(self):
        for sign, left, right in itertools.product(SIGNS, FORMS, FORMS):
            self.check(program(("op", sign, left, right)))
        for left, right in itertools.product(FORMS, FORMS):
            self.check(program(("call", left, right)))
            self.check(program(("pair", left, right)))
            self.check(program(("print", left, right)))

    def test_operators_inside_operators(self):
        for outer, left, right in itertools.product(SIGNS, repeat=3):
            self.check(program(("op", outer, ("op", left, ONE, X), ("op", right, Y, TWO))))

    def test_words_in_front_of_calls_and_calls_of_words(self):
        for place in (
            lambda e: ("not", e), lambda e: ("fst", e), lambda e: ("snd", e),
            lambda e: ("ask", "o", e),
        ):
            self.check(program(place(("call", F, X))))
            self.check(program(("call", place(F), X)))
            self.check(program(("call", F, place(X))))
            self.check(program(("op", "*", place(("op", "*", X, Y)), place(X))))
            self.check(program(("op", "*", ("call", F, place(X)), ("call", place(F), X))))

    def test_different_programs_have_different_texts(self):
        shown = {}
        for place, form in itertools.product(PLACES, FORMS):
            written = program(place(form))
            self.assertEqual(shown.setdefault(show(written), written), written)


class ValuesTest(WriteCase):
    def test_numbers(self):
        for number in (0, 1, 9, 10, 1000000, 2147483647):
            self.check(program(("num", number)))
            self.check(program(("call", ("num", number), ("op", "-", ONE, ("num", number)))))

    def test_names(self):
        for name in ("a", "z", "o", "fu", "funs", "in_", "x1", "unit_", "a" * 20, "a_0123456789_bcdefgh"):
            expression = ("name", name)
            self.check(program(expression))
            self.check(program(("fun", name, expression)))
            self.check(program(("rec", name, name, expression)))
            self.check(program(("let", name, expression, expression)))
            self.check(program(("ask", name, expression), (name, INT, INT)))
            self.check(program(("handle", X, (name, X), ((name, name, name, expression),))))

    def test_flags(self):
        self.assertEqual(show(program(("flag", True))), "true")
        self.assertEqual(show(program(("flag", False))), "false")


class OperationsTest(WriteCase):
    PLAIN = (
        INT, BOOL, UNIT,
        ("pair", INT, BOOL),
        ("pair", ("pair", INT, UNIT), BOOL),
        ("pair", INT, ("pair", UNIT, BOOL)),
        ("pair", ("pair", BOOL, INT), ("pair", ("pair", UNIT, UNIT), INT)),
    )

    def test_one_operation(self):
        for given, answered in itertools.product(self.PLAIN, self.PLAIN):
            self.check(program(X, ("o", given, answered)))

    def test_several_operations_in_their_order(self):
        for many in (2, 3, 40):
            self.check(program(X, *((f"o{k}", INT, self.PLAIN[k % 7]) for k in range(many, 0, -1))))

    def test_an_operation_declared_twice(self):
        self.check(program(X, ("o", INT, BOOL), ("o", UNIT, INT), ("o", INT, BOOL)))

    def test_types_of_depth_60(self):
        left, right = INT, BOOL
        for _ in range(59):
            left, right = ("pair", left, UNIT), ("pair", INT, right)
        self.check(program(X, ("o", left, right), ("p", right, left)))


class SizesTest(WriteCase):
    def test_each_place_20_deep(self):
        for place in PLACES:
            for form in (ONE, X):
                expression = form
                for _ in range(19):
                    expression = place(expression)
                self.check(program(expression))

    def test_two_places_in_turn_20_deep(self):
        for first, second in itertools.product(PLACES, PLACES):
            expression = X
            for at in range(19):
                expression = (first, second)[at % 2](expression)
            self.check(program(expression))

    def test_all_places_in_turn_20_deep(self):
        for start in range(len(PLACES)):
            for step in (1, 2, 3, 5, 7):
                expression = ONE
                for at in range(19):
                    expression = PLACES[(start + at * step) % len(PLACES)](expression)
                self.check(program(expression))

    def test_a_long_text(self):
        expression = ("op", "==", ("call", F, X), ("not", Y))
        for _ in range(9):
            expression = ("pair", expression, expression)
        self.assertGreater(len(show(program(expression))), 8000)
        self.check(program(expression))

    def test_equal_programs_have_equal_texts(self):
        for first, second in (
            ("1+2", "((1) + (2))"),
            ("f x y", "( (f x)\n y )"),
            ("effect o:int->(int,bool);not ask o(1)", "effect o : int -> (int , bool) ; (not (ask o 1))"),
            ("handle(1){return x=>(x)|o y k=>k(y)}", "handle 1 { return x => x | o y k => (k y) }"),
        ):
            self.assertEqual(read(first), read(second))
            self.assertEqual(show(read(first)), show(read(second)))


if __name__ == "__main__":
    unittest.main()
