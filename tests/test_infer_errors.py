"""Types and rows: the errors of points IN2 (rules) and IN3 (order)."""

import unittest

from askedfor.errors import Mismatched, Refused, Twice, Unknown
from askedfor.infer import infer
from askedfor.reader import read

OPERATIONS = (
    "effect o : int -> bool; effect p : int -> int; effect q : bool -> int; "
    "effect r : (int, bool) -> (unit, (int, int)); effect s : unit -> unit; "
)


class RefuseCase(unittest.TestCase):
    def refused(self, text, error):
        """This text, without other operations, is refused with this very error."""
        with self.subTest(text):
            with self.assertRaises(Refused) as held:
                infer(read(text))
            self.assertEqual(
                (type(held.exception), vars(held.exception)), (type(error), vars(error))
            )

    def mismatched(self, text, number):
        self.refused(OPERATIONS + text, Mismatched(number))

    def unknown(self, text, name):
        self.refused(OPERATIONS + text, Unknown(name))

    def twice(self, text, name):
        self.refused(OPERATIONS + text, Twice(name))

    def accepted(self, text):
        with self.subTest(text):
            infer(read(OPERATIONS + text))


class MismatchedTest(RefuseCase):
    def test_example(self):
        self.refused(
            "effect o : int -> int; handle ask o true { return x => x | o x k => k 1 }",
            Mismatched(2),
        )

    def test_operators(self):
        for sign in ("+", "-", "*", "<", "=="):
            self.mismatched(f"true {sign} 1", 1)
            self.mismatched(f"1 {sign} true", 2)
            self.mismatched(f"unit {sign} true", 1)
            self.mismatched(f"(1, 2) {sign} 1", 1)
            self.mismatched(f"1 {sign} (fun x => x)", 2)
            self.mismatched(f"(1 + 2) {sign} not true", 4)
        self.mismatched("1 < (1 < 2)", 2)
        self.mismatched("(1 == 2) == 1", 1)

    def test_not(self):
        self.mismatched("not 1", 1)
        self.mismatched("not (1 + 2)", 1)
        self.mismatched("not not unit", 2)
        self.mismatched("fun x => not (x + 1)", 2)

    def test_conditions(self):
        self.mismatched("if 1 then 2 else 3", 1)
        self.mismatched("if not true then if unit then 1 else 2 else 3", 4)

    def test_second_branches(self):
        self.mismatched("if true then 1 else false", 3)
        self.mismatched("if true then 1 + 2 else false", 5)
        self.mismatched("if true then fun x => 1 else 1", 4)
        self.mismatched("if true then fun x => 1 else fun x => true", 4)
        self.mismatched("if true then fun x => x + 1 else fun x => (if x then 1 else 2)", 6)
        self.mismatched("if true then (1, true) else (1, 2)", 5)
        self.mismatched("fun x => if x then x else 1", 4)

    def test_the_function_of_a_call(self):
        self.mismatched("1 2", 1)
        self.mismatched("true unit", 1)
        self.mismatched("(1, 2) 3", 1)
        self.mismatched("(ask p 1) 2", 1)
        self.mismatched("(fun x => x) 1 2", 1)
        self.mismatched("let f = 1 in f 2", 3)

    def test_the_argument_of_a_call_shows_at_the_function(self):
        self.mismatched("(fun x => x + 1) true", 1)
        self.mismatched("(fun f => f 1) (fun x => not x)", 1)
        self.mismatched("let f = fun x => not x in (f true, f 1)", 9)
        self.mismatched("fun f => (f 1, f true)", 6)
        self.mismatched("1 + (rec h x => h (x - 1)) unit", 3)

    def test_fst_and_snd(self):
        for word in ("fst", "snd"):
            self.mismatched(f"{word} 1", 1)
            self.mismatched(f"{word} true", 1)
            self.mismatched(f"{word} (fun x => x)", 1)
            self.mismatched(f"{word} {word} (1, 2)", 1)
            self.mismatched(f"fun x => (x + 1, {word} x)", 6)

    def test_print(self):
        self.mismatched("print true; 1", 1)
        self.mismatched("print (1, 2); 1", 1)
        self.mismatched("print 1; print unit; 1", 3)

    def test_ask(self):
        self.mismatched("ask o true", 1)
        self.mismatched("ask q 1", 1)
        self.mismatched("ask r (true, 1)", 1)
        self.mismatched("ask r (1, (true, true))", 1)
        self.mismatched("ask s 1", 1)
        self.mismatched("ask o ask o 1", 1)
        self.mismatched("1 + ask o 1", 2)

    def test_the_body_of_a_rec(self):
        self.mismatched("rec h x => h", 1)
        self.mismatched("rec h x => fun y => h x", 1)
        self.mismatched("rec h x => (h 1, x)", 1)
        self.mismatched("1 + fst (rec h x => (let u = h x + 1 in true), 2)", 5)
        # The use of the name before is looked at first, so that the body does not fit.
        self.mismatched("rec h x => if not (h 1) then 2 else 3", 1)

    def test_the_use_of_the_name_of_a_return_clause(self):
        self.mismatched("handle true { return x => x + 1 }", 3)
        self.mismatched("handle ask o 1 { return x => (1, x * 2) | o y k => k true }", 6)

    def test_the_expression_of_a_clause(self):
        self.mismatched("handle 1 { return x => x | p y k => true }", 3)
        self.mismatched("handle 1 { return x => (x, x) | p y k => y }", 5)
        self.mismatched("handle 1 { return x => x | p y k => k y | o y k => (1, k true) }", 6)
        self.mismatched("handle ask p 1 { return x => x < 1 | p y k => y }", 6)
        self.mismatched("handle ask p 1 { return x => x | p y k => k }", 4)

    def test_the_names_of_a_clause(self):
        self.mismatched("handle 1 { return x => x | q y k => k (y + 1) }", 6)
        self.mismatched("handle 1 { return x => x | q y k => k y }", 4)
        self.mismatched("handle 1 { return x => x < 1 | q y k => not (k 1) == 1 }", 6)
        # The later of two equal names counts.
        self.mismatched("handle 1 { return x => 0 | p k k => k + 1 }", 4)
        self.mismatched("rec x x => x 1 + x", 5)

    def test_a_type_that_would_contain_itself(self):
        self.mismatched("fun x => x x", 2)
        self.mismatched("fun f => f (f, 1)", 2)
        self.mismatched("fun x => if true then x else (x, x)", 4)
        self.mismatched("fun x => if true then (1, x) else x", 6)
        self.mismatched("fun x => if true then x else fun y => x", 4)
        self.mismatched("fun x => fun y => x (y x) (x y)", 9)
        self.mismatched("rec h x => h h", 2)
        # Around several types, none of which is in itself before.
        self.mismatched(
            "fun x => fun y => (if true then x else (y, 1), if true then y else (x, 1))", 12
        )
        self.mismatched(
            "fun x => fun y => fun z => (if true then x else (1, y), "
            "(if true then y else (1, z), if true then z else (1, x)))", 20
        )

    def test_types_that_contain_each_other_side_by_side_are_accepted(self):
        self.accepted("fun x => (if true then x else (1, 2), (x, x))")
        self.accepted("fun x => fun y => if true then (x, (y, y)) else ((y, 1), (1, 1))")
        self.accepted("fun f => f (fun x => x)")
        self.accepted("fun x => fun y => x (y x)")

    def test_a_type_that_fits_at_last_but_not_before(self):
        # What is inside of two equal pairs is the same, to whichever depth.
        self.mismatched(
            "fun x => fun y => (if true then ((x, 1), y) else (y, (true, 2)), x + 1)", 16
        )


class UnknownTest(RefuseCase):
    def test_names(self):
        self.unknown("x", "x")
        self.unknown("1 + y", "y")
        self.unknown("let x = x in 1", "x")
        self.unknown("(fun x => x) x", "x")
        self.unknown("(rec h x => x) h", "h")
        self.unknown("handle x { return x => x }", "x")
        self.unknown("handle 1 { return x => x | p y k => x }", "x")
        self.unknown("handle 1 { return x => y | p y k => 1 }", "y")
        self.unknown("handle k 1 { return x => x | p y k => 1 }", "k")
        self.unknown("handle 1 { return x => x | p y k => 1 | q z j => k 1 }", "k")

    def test_an_operation_is_no_name(self):
        self.unknown("p", "p")
        self.unknown("fun n => ask n 1", "n")

    def test_operations_asked_for(self):
        self.unknown("ask t 1", "t")
        self.unknown("fun x => ask t x", "t")
        self.refused("ask o 1", Unknown("o"))

    def test_operations_answered(self):
        self.unknown("handle 1 { return x => x | t y k => 1 }", "t")
        self.unknown("handle 1 { return x => x | p y k => 1 | t y k => 1 }", "t")
        self.refused("handle 1 { return x => x | o y k => 1 }", Unknown("o"))


class TwiceTest(RefuseCase):
    def test_declarations(self):
        self.refused("effect o : int -> int; effect o : int -> int; 1", Twice("o"))
        self.refused("effect o : int -> int; effect o : bool -> unit; ask o 1", Twice("o"))
        self.refused(
            "effect a : int -> int; effect b : int -> int; effect c : int -> int; "
            "effect b : int -> int; 1", Twice("b")
        )

    def test_the_first_that_is_declared_a_second_time(self):
        self.refused(
            "effect a : int -> int; effect b : int -> int; effect b : int -> int; "
            "effect a : int -> int; 1", Twice("b")
        )
        self.refused(
            "effect b : int -> int; effect a : int -> int; effect b : int -> int; "
            "effect a : int -> int; 1", Twice("b")
        )

    def test_clauses(self):
        self.twice("handle 1 { return x => x | p y k => 1 | p y k => 2 }", "p")
        self.twice("handle 1 { return x => x | p y k => 1 | q y k => 2 | p z j => 3 }", "p")
        self.twice(
            "handle 1 { return x => x | p y k => 1 | q y k => 2 | q z j => 3 | p y k => 4 }", "q"
        )

    def test_clauses_of_several_handlers(self):
        self.accepted(
            "handle (handle ask p 1 { return x => x | p y k => k y }) "
            "{ return x => x | p y k => handle k y { return x => x | p y k => k y } }"
        )


class OrderTest(RefuseCase):
    def test_a_declaration_before_everything(self):
        declared = "effect o : int -> int; effect o : int -> int; "
        for text in (
            "x", "ask t 1", "1 + true", "handle 1 { return x => x | t y k => 1 }",
            "handle 1 { return x => x | o y k => 1 | o y k => 1 }",
        ):
            self.refused(declared + text, Twice("o"))

    def test_the_parts_from_left_to_right(self):
        self.mismatched("(1 + true) + (2 + unit)", 3)
        self.unknown("x y", "x")
        self.unknown("(x, ask t 1)", "x")
        self.unknown("(ask t 1, x)", "t")
        self.mismatched("(not 1, x)", 2)
        self.unknown("(x, not 1)", "x")
        self.unknown("let a = x in y", "x")
        self.unknown("if x then y else z", "x")
        self.unknown("if true then y else z", "y")
        self.unknown("print x; y", "x")
        self.unknown("handle x { return a => y | t b k => z }", "x")
        self.unknown("handle 1 { return a => y | t b k => z }", "y")

    def test_the_parts_before_the_own_conditions(self):
        self.unknown("true + x", "x")
        self.unknown("true x", "x")
        self.unknown("if 1 then 2 else x", "x")
        self.mismatched("if 1 then 2 else not 3", 4)
        self.unknown("print true; x", "x")
        self.mismatched("true + not 1", 3)
        self.unknown("not fst x", "x")
        self.unknown("ask t x", "x")
        self.mismatched("ask t (not 1)", 2)
        self.unknown("ask o fst (true, x)", "x")
        self.unknown("rec h x => (h, y)", "y")

    def test_the_conditions_in_the_order_of_the_rule(self):
        self.mismatched("true + unit", 1)
        self.mismatched("if 1 then 2 else true", 1)
        self.unknown("ask t true", "t")
        # The condition of an `if` decides what the second branch may be.
        self.mismatched("fun x => if x then x else 1", 4)

    def test_what_comes_first_decides(self):
        self.mismatched("fun x => (x + 1, not x)", 6)
        self.mismatched("fun x => (not x, x + 1)", 5)
        self.mismatched("fun x => x + (if x then 1 else 2)", 2)
        self.mismatched("fun f => (f 1) + (if f 1 then 1 else 2)", 2)
        self.mismatched("fun f => (f 1 + 1, not (f 1))", 8)

    def test_a_clause_is_looked_at_before_its_expression(self):
        self.unknown("handle 1 { return x => x | t y k => z }", "t")
        self.unknown("handle 1 { return x => x | t y k => not 1 }", "t")
        self.twice("handle 1 { return x => x | p y k => 1 | p y k => z }", "p")
        self.twice("handle 1 { return x => x | p y k => 1 | p y k => not 1 }", "p")

    def test_the_parts_in_front_of_the_clauses(self):
        self.mismatched("handle not 1 { return x => y | t y k => 1 }", 2)
        self.mismatched("handle true { return x => x + 1 | t y k => 1 }", 3)
        self.mismatched(
            "handle true { return x => x + 1 | p y k => 1 | p y k => 1 }", 3
        )

    def test_one_clause_after_the_other(self):
        self.unknown("handle 1 { return x => x | p y k => z | t y k => 1 }", "z")
        self.mismatched("handle 1 { return x => x | p y k => not 1 | p y k => 1 }", 4)
        self.mismatched("handle 1 { return x => x | p y k => true | p y k => 1 }", 3)
        self.mismatched("handle 1 { return x => x | p y k => true | t y k => 1 }", 3)
        self.mismatched("handle 1 { return x => x | p y k => true | q y k => z }", 3)
        self.mismatched("handle 1 { return x => x | p y k => true | q y k => unit }", 3)
        self.unknown("handle 1 { return x => x | p y k => (z, true) }", "z")

    def test_unknown_before_twice(self):
        self.unknown("handle 1 { return x => x | t y k => 1 | t y k => 1 }", "t")

    def test_the_program_is_not_changed(self):
        for text in ("1 + true", "ask t 1", "handle 1 { return x => x | p y k => 1 | p y k => 2 }"):
            program = read(OPERATIONS + text)
            for _ in range(2):
                self.assertRaises(Refused, infer, program)
            self.assertEqual(program, read(OPERATIONS + text))


if __name__ == "__main__":
    unittest.main()
