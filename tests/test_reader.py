"""Reading: points RD1 (programs), RD2 (expressions) and RD3 (grammar)."""

import unittest

from askedfor.reader import read

INT, BOOL, UNIT = ("int",), ("bool",), ("unit",)
ONE, TWO, THREE, FOUR = ("num", 1), ("num", 2), ("num", 3), ("num", 4)
A, B, C, F, K, X, Y = (("name", name) for name in "abcfkxy")


def op(sign, left, right):
    return ("op", sign, left, right)


def call(function, *arguments):
    for argument in arguments:
        function = ("call", function, argument)
    return function


class ReadCase(unittest.TestCase):
    def check(self, text, expression):
        """The text is a program without declarations, with this expression."""
        with self.subTest(text):
            self.assertEqual(repr(read(text)), repr(("program", (), expression)))

    def check_same(self, text, other):
        with self.subTest(text):
            self.assertEqual(read(text), read(other))


class ProgramsTest(ReadCase):
    def test_examples(self):
        self.assertEqual(
            read("effect get : unit -> int; ask get unit + 1"),
            (
                "program",
                (("get", ("unit",), ("int",)),),
                ("op", "+", ("ask", "get", ("unit",)), ("num", 1)),
            ),
        )
        self.assertEqual(
            read("handle f 2 { return x => x | o y k => k y }")[2],
            (
                "handle",
                ("call", ("name", "f"), ("num", 2)),
                ("x", ("name", "x")),
                (("o", "y", "k", ("call", ("name", "k"), ("name", "y"))),),
            ),
        )

    def test_no_declaration(self):
        self.assertEqual(read("1"), ("program", (), ONE))

    def test_one_declaration(self):
        self.assertEqual(
            read("effect o:int->bool;1"), ("program", (("o", INT, BOOL),), ONE)
        )

    def test_several_declarations(self):
        self.assertEqual(
            read("effect b : int -> bool; effect a : bool -> unit;\neffect c : unit -> int; x"),
            ("program", (("b", INT, BOOL), ("a", BOOL, UNIT), ("c", UNIT, INT)), X),
        )

    def test_a_program_may_declare_twice_and_ask_for_anything(self):
        self.assertEqual(
            read("effect o : int -> int; effect o : int -> unit; ask p y"),
            ("program", (("o", INT, INT), ("o", INT, UNIT)), ("ask", "p", Y)),
        )

    def test_types(self):
        for text, plain in (
            ("int", INT),
            ("bool", BOOL),
            ("unit", UNIT),
            ("(int, bool)", ("pair", INT, BOOL)),
            ("((int, bool), unit)", ("pair", ("pair", INT, BOOL), UNIT)),
            ("(int, (bool, unit))", ("pair", INT, ("pair", BOOL, UNIT))),
            (
                "((int,unit),(bool,(unit,unit)))",
                ("pair", ("pair", INT, UNIT), ("pair", BOOL, ("pair", UNIT, UNIT))),
            ),
        ):
            with self.subTest(text):
                self.assertEqual(
                    read(f"effect o : {text} -> unit; 1")[1], (("o", plain, UNIT),)
                )
                self.assertEqual(read(f"effect o : int -> {text}; 1")[1], (("o", INT, plain),))

    def test_the_kinds_of_values(self):
        program = read("effect o : int -> int; handle 1 { return x => x | o y k => 1 }")
        self.assertIs(type(program), tuple)
        self.assertIs(type(program[1]), tuple)
        self.assertIs(type(program[1][0]), tuple)
        self.assertIs(type(program[2][2]), tuple)
        self.assertIs(type(program[2][3]), tuple)
        self.assertIs(type(program[2][3][0]), tuple)

    def test_spaces_and_newlines_do_not_matter(self):
        text = "effect o : (int, int) -> int; handle ask o (1, 2) { return x => x | o y k => k 3 }"
        self.check_same(text.replace(" ", "\n \n"), text)
        self.check_same(f"\n {text} \n", text)


class ExpressionsTest(ReadCase):
    def test_literals_and_names(self):
        self.check("0", ("num", 0))
        self.check("2147483647", ("num", 2147483647))
        self.check("true", ("flag", True))
        self.check("false", ("flag", False))
        self.check("unit", ("unit",))
        self.check("x", X)
        self.check("get_2", ("name", "get_2"))

    def test_flags_are_no_numbers(self):
        self.assertIs(read("true")[2][1], True)
        self.assertIs(read("false")[2][1], False)
        self.assertIs(type(read("1")[2][1]), int)

    def test_calls(self):
        self.check("f 1", call(F, ONE))
        self.check("f true", call(F, ("flag", True)))
        self.check("f false", call(F, ("flag", False)))
        self.check("f unit", call(F, ("unit",)))
        self.check("f x", call(F, X))
        self.check("f (x)", call(F, X))
        self.check("f (x, y)", call(F, ("pair", X, Y)))
        self.check("f(1)", call(F, ONE))
        self.check("1 2", call(ONE, TWO))
        self.check("true unit", call(("flag", True), ("unit",)))
        self.check("(fun x => x) 1", call(("fun", "x", X), ONE))

    def test_functions(self):
        self.check("fun x => y", ("fun", "x", Y))
        self.check("rec h x => y", ("rec", "h", "x", Y))
        self.check("rec x x => x", ("rec", "x", "x", X))
        self.check("fun x => fun y => x", ("fun", "x", ("fun", "y", X)))
        self.check("fun x => x + 1", ("fun", "x", op("+", X, ONE)))
        self.check("fun x => f x", ("fun", "x", call(F, X)))

    def test_let_and_if(self):
        self.check("let x = 1 in y", ("let", "x", ONE, Y))
        self.check("let x = let y = 1 in 2 in 3", ("let", "x", ("let", "y", ONE, TWO), THREE))
        self.check("let x = 1 in let y = 2 in 3", ("let", "x", ONE, ("let", "y", TWO, THREE)))
        self.check("let x = fun y => 1 in 2", ("let", "x", ("fun", "y", ONE), TWO))
        self.check("if x then 1 else 2", ("if", X, ONE, TWO))
        self.check(
            "if a then if b then 1 else 2 else 3", ("if", A, ("if", B, ONE, TWO), THREE)
        )
        self.check(
            "if a then 1 else if b then 2 else 3", ("if", A, ONE, ("if", B, TWO, THREE))
        )
        self.check(
            "if if a then b else c then 1 else 2", ("if", ("if", A, B, C), ONE, TWO)
        )
        self.check("if x < 1 then 2 + 3 else 4", ("if", op("<", X, ONE), op("+", TWO, THREE), FOUR))

    def test_pairs(self):
        self.check("(1, 2)", ("pair", ONE, TWO))
        self.check("((1, 2), 3)", ("pair", ("pair", ONE, TWO), THREE))
        self.check("(1, (2, 3))", ("pair", ONE, ("pair", TWO, THREE)))
        self.check("(fun x => x, let x = 1 in 2)", ("pair", ("fun", "x", X), ("let", "x", ONE, TWO)))
        self.check("fst x", ("fst", X))
        self.check("snd x", ("snd", X))
        self.check("fst (1, 2)", ("fst", ("pair", ONE, TWO)))

    def test_operations(self):
        for sign in ("+", "-", "*", "<", "=="):
            self.check(f"1 {sign} 2", op(sign, ONE, TWO))
            self.check(f"x{sign}y", op(sign, X, Y))
        self.check("not x", ("not", X))

    def test_print(self):
        self.check("print 1 ; 2", ("print", ONE, TWO))
        self.check("print 1 ; print 2 ; 3", ("print", ONE, ("print", TWO, THREE)))
        self.check("print 1 + 2 * 3 - f 4; x", (
            "print", op("-", op("+", ONE, op("*", TWO, THREE)), call(F, FOUR)), X,
        ))
        self.check("print 1; x < y", ("print", ONE, op("<", X, Y)))
        self.check("print (x < y); 1", ("print", op("<", X, Y), ONE))
        self.check("print (print 1; 2); 3", ("print", ("print", ONE, TWO), THREE))

    def test_ask(self):
        self.check("ask o x", ("ask", "o", X))
        self.check("ask o ask p x", ("ask", "o", ("ask", "p", X)))
        self.check("ask o (x, y)", ("ask", "o", ("pair", X, Y)))

    def test_handles(self):
        self.check("handle 1 { return x => 2 }", ("handle", ONE, ("x", TWO), ()))
        self.check(
            "handle 1 { return x => 2 | o y k => 3 }",
            ("handle", ONE, ("x", TWO), (("o", "y", "k", THREE),)),
        )
        self.check(
            "handle 1 { return x => 2 | o y k => 3 | p x x => k y | o a b => fun c => c }",
            (
                "handle",
                ONE,
                ("x", TWO),
                (
                    ("o", "y", "k", THREE),
                    ("p", "x", "x", call(K, Y)),
                    ("o", "a", "b", ("fun", "c", C)),
                ),
            ),
        )

    def test_handles_in_handles(self):
        inner = ("handle", ONE, ("x", TWO), (("o", "y", "k", THREE),))
        text = "handle 1 { return x => 2 | o y k => 3 }"
        self.check(f"handle {text} {{ return x => x }}", ("handle", inner, ("x", X), ()))
        self.check(f"handle 1 {{ return a => {text} }}", ("handle", ONE, ("a", inner), ()))
        self.check(
            f"handle 1 {{ return a => a | o a b => {text} | p a b => 4 }}",
            ("handle", ONE, ("a", A), (("o", "a", "b", inner), ("p", "a", "b", FOUR))),
        )

    def test_a_handle_of_each_form(self):
        for text, inner in (
            ("fun x => x", ("fun", "x", X)),
            ("print 1; 2", ("print", ONE, TWO)),
            ("x < y", op("<", X, Y)),
            ("if a then b else c", ("if", A, B, C)),
        ):
            self.check(f"handle {text} {{ return x => y }}", ("handle", inner, ("x", Y), ()))


class GrammarTest(ReadCase):
    def test_sums_associate_to_the_left(self):
        self.check("1 + 2 + 3", op("+", op("+", ONE, TWO), THREE))
        self.check("1 - 2 - 3", op("-", op("-", ONE, TWO), THREE))
        self.check("1 - 2 + 3 - 4", op("-", op("+", op("-", ONE, TWO), THREE), FOUR))
        self.check("1 - (2 - 3)", op("-", ONE, op("-", TWO, THREE)))

    def test_products_associate_to_the_left(self):
        self.check("1 * 2 * 3 * 4", op("*", op("*", op("*", ONE, TWO), THREE), FOUR))
        self.check("1 * (2 * 3)", op("*", ONE, op("*", TWO, THREE)))

    def test_calls_associate_to_the_left(self):
        self.check("f 1 x 2", call(F, ONE, X, TWO))
        self.check("f (x 1) y", call(F, call(X, ONE), Y))

    def test_products_bind_closer_than_sums(self):
        self.check("1 + 2 * 3", op("+", ONE, op("*", TWO, THREE)))
        self.check("1 * 2 + 3", op("+", op("*", ONE, TWO), THREE))
        self.check("1 - 2 * 3 + 4", op("+", op("-", ONE, op("*", TWO, THREE)), FOUR))
        self.check("(1 + 2) * 3", op("*", op("+", ONE, TWO), THREE))

    def test_sums_bind_closer_than_comparisons(self):
        for sign in ("<", "=="):
            self.check(f"1 + 2 {sign} 3 - 4", op(sign, op("+", ONE, TWO), op("-", THREE, FOUR)))
            self.check(f"1 * 2 {sign} 3 * 4", op(sign, op("*", ONE, TWO), op("*", THREE, FOUR)))
            self.check(f"1 + (2 {sign} 3)", op("+", ONE, op(sign, TWO, THREE)))
            self.check(f"(1 < 2) {sign} 3", op(sign, op("<", ONE, TWO), THREE))
            self.check(f"1 {sign} (2 == 3)", op(sign, ONE, op("==", TWO, THREE)))

    def test_prefixes_stand_around_calls(self):
        for word in ("not", "fst", "snd"):
            self.check(f"{word} f x", (word, call(F, X)))
            self.check(f"{word} f x y", (word, call(F, X, Y)))
            self.check(f"({word} f) x", call((word, F), X))
            self.check(f"f ({word} x) y", call(F, (word, X), Y))
        self.check("ask o f x", ("ask", "o", call(F, X)))
        self.check("ask o f x y", ("ask", "o", call(F, X, Y)))
        self.check("(ask o f) x", call(("ask", "o", F), X))

    def test_prefixes_bind_closer_than_signs(self):
        for sign in ("+", "-", "*", "<", "=="):
            for word in ("not", "fst", "snd"):
                self.check(f"{word} x {sign} {word} y", op(sign, (word, X), (word, Y)))
                self.check(f"{word} f x {sign} 1", op(sign, (word, call(F, X)), ONE))
                self.check(f"{word} (x {sign} y)", (word, op(sign, X, Y)))
            self.check(f"ask o x {sign} ask p y", op(sign, ("ask", "o", X), ("ask", "p", Y)))
            self.check(f"ask o (x {sign} y)", ("ask", "o", op(sign, X, Y)))
            self.check(f"f 1 {sign} f 2", op(sign, call(F, ONE), call(F, TWO)))

    def test_prefixes_in_prefixes(self):
        self.check("not not x", ("not", ("not", X)))
        self.check("fst snd not x", ("fst", ("snd", ("not", X))))
        self.check("not ask o fst x", ("not", ("ask", "o", ("fst", X))))
        self.check("ask o not f x", ("ask", "o", ("not", call(F, X))))

    def test_long_forms_reach_as_far_as_they_can(self):
        self.check("fun x => 1 < 2", ("fun", "x", op("<", ONE, TWO)))
        self.check("rec f x => f x + 1", ("rec", "f", "x", op("+", call(F, X), ONE)))
        self.check("let x = 1 + 2 in x == 3", ("let", "x", op("+", ONE, TWO), op("==", X, THREE)))
        self.check("if a then b else c + 1", ("if", A, B, op("+", C, ONE)))
        self.check("print 1; 2 + 3", ("print", ONE, op("+", TWO, THREE)))
        self.check("print 1; fun x => x", ("print", ONE, ("fun", "x", X)))
        self.check("1 + (fun x => x)", op("+", ONE, ("fun", "x", X)))

    def test_parentheses_leave_no_trace(self):
        self.check("(1)", ONE)
        self.check("(((x)))", X)
        self.check("((1) + (2))", op("+", ONE, TWO))
        self.check("(f) (x)", call(F, X))
        self.check("((1, 2))", ("pair", ONE, TWO))
        self.check("((1), (2))", ("pair", ONE, TWO))
        self.check_same("(fun x => (x))", "fun x => x")
        self.check_same("(let x = (1) in (x))", "let x = 1 in x")
        self.check_same("(handle (f 1) { return x => (x) | o y k => (k (y)) })",
                        "handle f 1 { return x => x | o y k => k y }")
        self.check_same("(1 + 2) + 3", "1 + 2 + 3")
        self.check_same("(f x) y", "f x y")
        self.check_same("not (f x)", "not f x")

    def test_a_handle_ends_with_its_brace(self):
        self.check("(handle 1 { return x => x }) + 2", op("+", ("handle", ONE, ("x", X), ()), TWO))
        self.check("(handle 1 { return x => x }) y", call(("handle", ONE, ("x", X), ()), Y))
        self.check(
            "if handle a { return x => x } then 1 else 2",
            ("if", ("handle", A, ("x", X), ()), ONE, TWO),
        )

    def test_a_long_program(self):
        text = (
            "effect get : unit -> int; effect put : int -> unit; "
            "(handle (let u = ask put 5 in ask get unit + 1) "
            "{ return x => fun s => (x, s) | get u k => fun s => k s s "
            "| put n k => fun s => k unit n }) 2"
        )
        s, n, u = ("name", "s"), ("name", "n"), ("unit",)
        handle = (
            "handle",
            ("let", "u", ("ask", "put", ("num", 5)), op("+", ("ask", "get", u), ONE)),
            ("x", ("fun", "s", ("pair", X, s))),
            (
                ("get", "u", "k", ("fun", "s", call(K, s, s))),
                ("put", "n", "k", ("fun", "s", call(K, u, n))),
            ),
        )
        operations = (("get", UNIT, INT), ("put", INT, UNIT))
        self.assertEqual(read(text), ("program", operations, call(handle, TWO)))


if __name__ == "__main__":
    unittest.main()
