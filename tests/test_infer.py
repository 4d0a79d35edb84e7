"""Types and rows: points IN1 (types), IN2 (rules) and IN4 (results)."""

import unittest

from askedfor.infer import infer
from askedfor.reader import read
from askedfor.trees import numbered

INT, BOOL, UNIT = ("int",), ("bool",), ("unit",)
OPERATIONS = (
    "effect o : int -> bool; effect p : int -> int; effect q : bool -> int; "
    "effect r : (int, bool) -> (unit, (int, int)); effect s : unit -> unit; "
)


def fun(given, row, result):
    return ("fun", given, tuple(row), result)


def pair(first, second):
    return ("pair", first, second)


class InferCase(unittest.TestCase):
    def check(self, text, found, row=()):
        """The expression of this text, with the operations from above, has this type and row."""
        with self.subTest(text):
            types, rows = infer(read(OPERATIONS + text))
            self.assertEqual((types[0], rows[0]), (found, tuple(row)))

    def check_all(self, text, *expected):
        """These are the types and the rows of all expressions, each with the row if it has one."""
        with self.subTest(text):
            types, rows = infer(read(OPERATIONS + text))
            self.assertEqual(
                [(one, row) for one, row in zip(types, rows)],
                [(one[0], tuple(one[1])) for one in expected],
            )


class ResultTest(InferCase):
    def test_examples(self):
        types, rows = infer(read("effect o : int -> int; fun x => ask o (x + 1)"))
        self.assertEqual(
            (types[0], rows[0], rows[1]), (("fun", INT, ("o",), INT), (), ("o",))
        )

    def test_the_kinds_of_values(self):
        found = infer(read(OPERATIONS + "fun x => (ask o 1, x)"))
        self.assertIs(type(found), tuple)
        types, rows = found
        self.assertIs(type(types), list)
        self.assertIs(type(rows), list)
        self.assertEqual(len(types), 5)
        self.assertEqual(len(rows), 5)
        self.assertIs(type(types[0]), tuple)
        self.assertIs(type(types[0][2]), tuple)
        self.assertIs(type(rows[0]), tuple)

    def test_one_for_each_expression(self):
        for text in (
            "1", "(1, (2, 3))", "let x = 1 in x + x",
            "handle ask o 1 { return x => not x | o y k => k true | p y k => k (y + 1) }",
        ):
            program = read(OPERATIONS + text)
            types, rows = infer(program)
            self.assertEqual(len(types), len(numbered(program[2])))
            self.assertEqual(len(rows), len(numbered(program[2])))

    def test_lists_are_not_shared(self):
        program = read(OPERATIONS + "ask p 1")
        types, rows = infer(program)
        types.clear()
        rows.append(("o",))
        self.assertEqual(infer(program), ([INT, INT], [("p",), ()]))

    def test_programs_without_operations(self):
        self.assertEqual(infer(read("1")), ([INT], [()]))


class RulesTest(InferCase):
    def test_literals(self):
        self.check_all("1", (INT, ""))
        self.check_all("true", (BOOL, ""))
        self.check_all("false", (BOOL, ""))
        self.check_all("unit", (UNIT, ""))

    def test_fun(self):
        self.check_all("fun x => x + 1", (fun(INT, "", INT), ""), (INT, ""), (INT, ""), (INT, ""))
        self.check_all("fun x => 1", (fun(UNIT, "", INT), ""), (INT, ""))
        self.check("fun x => fun y => not y", fun(UNIT, "", fun(BOOL, "", BOOL)))
        self.check("fun x => fun x => not x", fun(UNIT, "", fun(BOOL, "", BOOL)))

    def test_the_row_of_a_function_is_not_that_of_the_expression(self):
        self.check_all(
            "fun x => ask o x", (fun(INT, "o", BOOL), ""), (BOOL, "o"), (INT, "")
        )
        self.check_all(
            "fun x => fun y => ask o (x + ask p y)",
            (fun(INT, "", fun(INT, "op", BOOL)), ""),
            (fun(INT, "op", BOOL), ""),
            (BOOL, "op"), (INT, "p"), (INT, ""), (INT, "p"), (INT, ""),
        )
        self.check("let f = fun x => ask o x in 1", INT)
        self.check("(fun x => ask o x, 1)", pair(fun(INT, "o", BOOL), INT))

    def test_rec(self):
        self.check_all(
            "rec h x => h (x + 1)",
            (fun(INT, "", UNIT), ""), (UNIT, ""), (fun(INT, "", UNIT), ""),
            (INT, ""), (INT, ""), (INT, ""),
        )
        self.check("rec h x => if x < 1 then 0 else x + h (x - 1)", fun(INT, "", INT))
        self.check("rec h x => 1", fun(UNIT, "", INT))
        # The later of two equal names counts.
        self.check("rec x x => not x", fun(BOOL, "", BOOL))

    def test_a_recursive_function_that_asks(self):
        self.check_all(
            "rec h x => if ask o x then x else h x",
            (fun(INT, "o", INT), ""),
            (INT, "o"),
            (BOOL, "o"), (INT, ""),
            (INT, ""),
            (INT, "o"), (fun(INT, "o", INT), ""), (INT, ""),
        )
        self.check("(rec h x => if ask o x then x else h x) 1", INT, "o")

    def test_a_call_brings_the_row_of_the_function(self):
        self.check_all(
            "(fun x => ask o x) 1",
            (BOOL, "o"), (fun(INT, "o", BOOL), ""), (BOOL, "o"), (INT, ""), (INT, ""),
        )
        self.check("let f = fun x => ask o x in f 1", BOOL, "o")
        self.check("(fun x => fun y => ask o x) 1", fun(UNIT, "o", BOOL))
        self.check("(fun x => fun y => ask o x) 1 2", BOOL, "o")

    def test_a_call_contains_the_rows_of_its_parts(self):
        self.check("(fun x => ask o x) (ask p 1)", BOOL, "op")
        self.check("(let u = ask s unit in fun x => ask o x) (ask p 1)", BOOL, "ops")

    def test_a_function_that_is_passed_and_called(self):
        self.check("fun f => f 1 + 1", fun(fun(INT, "", INT), "", INT))
        self.check_all(
            "(fun f => f 1) (fun x => ask o x)",
            (BOOL, "o"),
            (fun(fun(INT, "o", BOOL), "o", BOOL), ""),
            (BOOL, "o"), (fun(INT, "o", BOOL), ""), (INT, ""),
            (fun(INT, "o", BOOL), ""), (BOOL, "o"), (INT, ""),
        )
        self.check(
            "let twice = fun f => fun x => f (f x) in twice (fun x => ask p x)",
            fun(INT, "p", INT),
        )

    def test_all_functions_in_one_place_have_one_row(self):
        self.check_all(
            "if true then fun x => ask o x else fun y => not (ask p y < 1)",
            (fun(INT, "op", BOOL), ""), (BOOL, ""),
            (fun(INT, "op", BOOL), ""), (BOOL, "o"), (INT, ""),
            (fun(INT, "op", BOOL), ""), (BOOL, "p"), (BOOL, "p"), (INT, "p"), (INT, ""), (INT, ""),
        )
        self.check(
            "let f = fun g => g 1 in (f (fun x => ask o x), f (fun y => ask p y < 1))",
            pair(BOOL, BOOL), "op",
        )

    def test_let(self):
        self.check_all("let x = 1 in (x, true)", (pair(INT, BOOL), ""), (INT, ""),
                       (pair(INT, BOOL), ""), (INT, ""), (BOOL, ""))
        self.check("let x = ask o 1 in ask p 2", INT, "op")
        self.check("let x = 1 in let x = true in x", BOOL)
        self.check("let x = 1 in let x = (x, x) in x", pair(INT, INT))

    def test_if(self):
        self.check_all("if true then 1 else 2", (INT, ""), (BOOL, ""), (INT, ""), (INT, ""))
        self.check("if ask o 1 then ask p 1 else ask q true", INT, "opq")
        self.check("fun x => if x then x else x", fun(BOOL, "", BOOL))
        self.check("fun x => fun y => if true then x else (y, 1)",
                   fun(pair(UNIT, INT), "", fun(UNIT, "", pair(UNIT, INT))))

    def test_pairs(self):
        self.check_all("(1, true)", (pair(INT, BOOL), ""), (INT, ""), (BOOL, ""))
        self.check("(ask o 1, ask p 1)", pair(BOOL, INT), "op")
        self.check_all("fst (1, true)", (INT, ""), (pair(INT, BOOL), ""), (INT, ""), (BOOL, ""))
        self.check_all("snd (1, true)", (BOOL, ""), (pair(INT, BOOL), ""), (INT, ""), (BOOL, ""))
        self.check("fst (ask o 1, 1)", BOOL, "o")
        self.check("fun x => fst x + 1", fun(pair(INT, UNIT), "", INT))
        self.check("fun x => snd x + 1", fun(pair(UNIT, INT), "", INT))
        self.check("fun x => (fst x + 1, not (snd x))", fun(pair(INT, BOOL), "", pair(INT, BOOL)))

    def test_operators(self):
        for sign in ("+", "-", "*"):
            self.check_all(f"1 {sign} 2", (INT, ""), (INT, ""), (INT, ""))
        for sign in ("<", "=="):
            self.check_all(f"1 {sign} 2", (BOOL, ""), (INT, ""), (INT, ""))
            self.check(f"fun x => fun y => x {sign} y", fun(INT, "", fun(INT, "", BOOL)))
        self.check("ask p 1 + ask q true", INT, "pq")
        self.check_all("not true", (BOOL, ""), (BOOL, ""))
        self.check("not (ask o 1)", BOOL, "o")
        self.check("fun x => not x", fun(BOOL, "", BOOL))

    def test_print(self):
        self.check_all("print 1; true", (BOOL, ""), (INT, ""), (BOOL, ""))
        self.check("print ask p 1; ask o 1", BOOL, "op")
        self.check("fun x => print x; x", fun(INT, "", INT))

    def test_ask(self):
        self.check_all("ask o 1", (BOOL, "o"), (INT, ""))
        self.check("ask o ask p 1", BOOL, "op")
        self.check_all(
            "ask r (1, true)",
            (pair(UNIT, pair(INT, INT)), "r"), (pair(INT, BOOL), ""), (INT, ""), (BOOL, ""),
        )
        self.check("fun x => ask r x", fun(pair(INT, BOOL), "r", pair(UNIT, pair(INT, INT))))
        self.check("ask s unit", UNIT, "s")

    def test_rows_are_ascending(self):
        self.check("(ask s unit, (ask q true, (ask p 1, ask o ask p 1)))",
                   pair(UNIT, pair(INT, pair(INT, BOOL))), "opqs")


class HandleTest(InferCase):
    def test_the_type_is_that_of_the_return_clause(self):
        self.check("handle 1 { return x => (x, true) }", pair(INT, BOOL))
        self.check("handle ask o 1 { return x => (x, 1) | o y k => (true, y) }", pair(BOOL, INT))
        self.check("handle true { return x => unit | p y k => k y }", UNIT)

    def test_without_clauses(self):
        self.check_all(
            "handle ask o 1 { return x => (x, ask p 2) }",
            (pair(BOOL, INT), "op"), (BOOL, "o"), (INT, ""),
            (pair(BOOL, INT), "p"), (BOOL, ""), (INT, "p"), (INT, ""),
        )

    def test_clauses_that_resume_never_once_and_twice(self):
        self.check_all(
            "handle ask o 1 { return x => 5 | o y k => y }",
            (INT, ""), (BOOL, "o"), (INT, ""), (INT, ""), (INT, ""),
        )
        self.check_all(
            "handle ask o 1 { return x => 5 | o y k => k true }",
            (INT, ""), (BOOL, "o"), (INT, ""), (INT, ""),
            (INT, ""), (fun(BOOL, "", INT), ""), (BOOL, ""),
        )
        self.check_all(
            "handle ask p 1 { return x => (x, 0) | p y k => k (fst (k y)) }",
            (pair(INT, INT), ""), (INT, "p"), (INT, ""),
            (pair(INT, INT), ""), (INT, ""), (INT, ""),
            (pair(INT, INT), ""), (fun(INT, "", pair(INT, INT)), ""),
            (INT, ""), (pair(INT, INT), ""), (fun(INT, "", pair(INT, INT)), ""), (INT, ""),
        )

    def test_the_row_without_the_operations_of_the_clauses(self):
        self.check("handle (ask o 1, ask p 1) { return x => 1 | o y k => k true }", INT, "p")
        self.check("handle (ask o 1, ask p 1) { return x => 1 | p y k => k 1 }", INT, "o")
        self.check(
            "handle (ask o 1, ask p 1) { return x => 1 | p y k => k 1 | o y k => k true }", INT
        )
        self.check("handle ask o 1 { return x => 1 | p y k => k 1 }", INT, "o")
        self.check("ask o (handle ask o 1 { return x => 1 | o y k => k true })", BOOL, "o")

    def test_the_return_clause_is_outside_of_the_handler(self):
        self.check("handle 1 { return x => ask o x | o y k => y < 2 }", BOOL, "o")
        self.check("handle ask p 1 { return x => ask p x | p y k => y }", INT, "p")

    def test_a_clause_that_asks_for_its_own_operation(self):
        self.check("handle ask p 1 { return x => x | p y k => k (ask p y) }", INT, "p")

    def test_a_clause_that_asks_for_the_operation_of_another_clause(self):
        self.check(
            "handle ask p 1 { return x => x | p y k => ask q true | q y k => k 1 }", INT, "q"
        )

    def test_an_operation_that_a_clause_asks_for(self):
        self.check("handle ask p 1 { return x => x | p y k => if ask o y then 1 else k 2 }",
                   INT, "o")

    def test_the_row_of_the_resumption_is_that_of_the_whole(self):
        self.check_all(
            "handle (ask p 1 + ask q true) "
            "{ return x => (ask s unit, x) | p y k => (if ask o y then k else k) y }",
            (pair(UNIT, INT), "oqs"),
            (INT, "pq"), (INT, "p"), (INT, ""), (INT, "q"), (BOOL, ""),
            (pair(UNIT, INT), "s"), (UNIT, "s"), (UNIT, ""), (INT, ""),
            (pair(UNIT, INT), "oqs"),
            (fun(INT, "oqs", pair(UNIT, INT)), "o"), (BOOL, "o"), (INT, ""),
            (fun(INT, "oqs", pair(UNIT, INT)), ""), (fun(INT, "oqs", pair(UNIT, INT)), ""),
            (INT, ""),
        )

    def test_a_resumption_that_is_not_called_has_the_row_too(self):
        types, _ = infer(read(
            OPERATIONS + "handle (ask o 1, ask p 1) { return x => 0 | p y k => (let f = k in 1) }"
        ))
        self.assertEqual(types[-2], fun(INT, "o", INT))

    def test_a_resumption_that_leaves_the_handler(self):
        self.check(
            "handle ask p 1 + ask q true { return x => fun u => x | p y k => k y }",
            fun(UNIT, "", INT), "q",
        )
        # The type of the whole and that of the resumption contain each other's row.
        self.check(
            "handle ask p 1 + ask q true { return x => (x, fun z => 0) "
            "| p y k => (y, fun z => fst (k z)) }",
            pair(INT, fun(INT, "q", INT)), "q",
        )

    def test_the_state_of_a_counter(self):
        text = (
            "effect get : unit -> int; effect put : int -> unit; "
            "(handle (let u = ask put 5 in ask get unit + 1) "
            "{ return x => fun s => (x, s) "
            "| get u k => fun s => k s s | put n k => fun s => k unit n }) 2"
        )
        types, rows = infer(read(text))
        self.assertEqual((types[0], rows[0]), (pair(INT, INT), ()))
        self.assertEqual((types[1], rows[1]), (fun(INT, "", pair(INT, INT)), ()))
        self.assertEqual(rows[2], ("get", "put"))

    def test_a_function_keeps_its_row_when_it_leaves_a_handler(self):
        self.check(
            "handle fun x => ask p x { return f => f | p y k => fun z => 1 }",
            fun(INT, "p", INT),
        )
        self.check("(handle fun x => ask p x { return f => f | p y k => k 1 }) 1", INT, "p")

    def test_a_handler_inside_a_function(self):
        self.check(
            "fun f => handle f 1 { return x => x | p y k => k (y + 1) }",
            fun(fun(INT, "", UNIT), "", UNIT),
        )
        self.check(
            "(fun f => handle f 1 { return x => x | p y k => k (y + 1) }) "
            "(fun x => ask p x + ask q true)",
            INT, "q",
        )

    def test_handlers_inside_handlers(self):
        self.check(
            "handle (handle (ask p 1 + ask q true) { return x => x | p y k => k (ask q false) }) "
            "{ return x => x < 1 | q y k => k 3 }",
            BOOL,
        )
        self.check(
            "handle (handle ask p 1 { return x => x | p y k => k (ask p y) }) "
            "{ return x => x | p y k => k y }",
            INT,
        )

    def test_the_names_of_a_clause(self):
        self.check("handle ask r (1, true) { return x => 0 | r y k => fst y + k (unit, (1, 2)) }",
                   INT)
        # The later of two equal names counts.
        self.check("handle ask o 1 { return x => 0 | o k k => k true }", INT)
        # Each name is bound in its own clause only.
        self.check(
            "fun x => fun k => handle x { return x => not x | p y k => k y | q x j => if k then x else j 1 }",
            fun(BOOL, "", fun(BOOL, "", BOOL)),
        )


class UndecidedTest(InferCase):
    def test_types_that_nothing_decides_are_unit(self):
        self.check_all("fun x => x", (fun(UNIT, "", UNIT), ""), (UNIT, ""))
        self.check("rec h x => h x", fun(UNIT, "", UNIT))
        self.check("fun f => fun x => f x", fun(fun(UNIT, "", UNIT), "", fun(UNIT, "", UNIT)))
        self.check("fun x => fst (snd x)", fun(pair(UNIT, pair(UNIT, UNIT)), "", UNIT))
        self.check("handle (rec h x => h x) 1 { return x => 1 }", INT)

    def test_types_that_are_decided_later(self):
        self.check_all(
            "fun x => (x, x + 1)",
            (fun(INT, "", pair(INT, INT)), ""), (pair(INT, INT), ""),
            (INT, ""), (INT, ""), (INT, ""), (INT, ""),
        )
        self.check_all(
            "let id = fun x => x in (id, id true)",
            (pair(fun(BOOL, "", BOOL), BOOL), ""),
            (fun(BOOL, "", BOOL), ""), (BOOL, ""),
            (pair(fun(BOOL, "", BOOL), BOOL), ""), (fun(BOOL, "", BOOL), ""),
            (BOOL, ""), (fun(BOOL, "", BOOL), ""), (BOOL, ""),
        )

    def test_types_that_are_the_same_are_decided_together(self):
        self.check(
            "fun a => fun b => fun c => fun u => "
            "(if true then a else b, (if true then b else c, c + 1))",
            fun(INT, "", fun(INT, "", fun(INT, "", fun(UNIT, "", pair(INT, pair(INT, INT)))))),
        )

    def test_rows_that_nothing_asks_for_are_empty(self):
        self.check("fun f => f 1 2", fun(fun(INT, "", fun(INT, "", UNIT)), "", UNIT))
        self.check("ask s (let f = fun x => ask o x in unit)", UNIT, "s")

    def test_rows_are_the_least(self):
        # The row of f contains what is asked for in one of its places, and not what is asked beside.
        self.check_all(
            "let f = fun x => x in let u = ask p 1 in (f, f (ask q true))",
            (pair(fun(INT, "", INT), INT), "pq"),
            (fun(INT, "", INT), ""), (INT, ""),
            (pair(fun(INT, "", INT), INT), "pq"), (INT, "p"), (INT, ""),
            (pair(fun(INT, "", INT), INT), "q"), (fun(INT, "", INT), ""),
            (INT, "q"), (fun(INT, "", INT), ""), (INT, "q"), (BOOL, ""),
        )

    def test_a_row_that_grows_later(self):
        self.check_all(
            "let f = fun g => g in (f, f (fun x => ask o x))",
            (pair(fun(fun(INT, "o", BOOL), "", fun(INT, "o", BOOL)), fun(INT, "o", BOOL)), ""),
            (fun(fun(INT, "o", BOOL), "", fun(INT, "o", BOOL)), ""), (fun(INT, "o", BOOL), ""),
            (pair(fun(fun(INT, "o", BOOL), "", fun(INT, "o", BOOL)), fun(INT, "o", BOOL)), ""),
            (fun(fun(INT, "o", BOOL), "", fun(INT, "o", BOOL)), ""),
            (fun(INT, "o", BOOL), ""),
            (fun(fun(INT, "o", BOOL), "", fun(INT, "o", BOOL)), ""),
            (fun(INT, "o", BOOL), ""), (BOOL, "o"), (INT, ""),
        )


if __name__ == "__main__":
    unittest.main()
