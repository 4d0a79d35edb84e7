"""The plain meaning: values, evaluation, asking and resuming (ME1 to ME4)."""

import os
import sys
import unittest

sys.path.insert(0, os.path.dirname(os.path.abspath(__file__)))

import samples
from askedfor.infer import infer
from askedfor.plain import run_plain
from askedfor.reader import read

LOW = -2**31
HIGH = 2**31 - 1


def run(text, steps=1000):
    return run_plain(read(text)[2], steps)


def num(n):
    return ("num", n)


class ValuesTest(unittest.TestCase):
    """ME1."""

    def test_results_are_taken_into_the_range(self):
        for sign, left, right, result in (
            ("+", 2, 3, 5), ("+", HIGH, 1, LOW), ("+", HIGH, 2, LOW + 1), ("+", HIGH, HIGH, -2),
            ("+", LOW, -1, HIGH), ("+", LOW, LOW, 0), ("+", HIGH, 0, HIGH), ("+", LOW, 0, LOW),
            ("+", HIGH, LOW, -1), ("-", 2, 3, -1), ("-", LOW, 1, HIGH), ("-", LOW, HIGH, 1),
            ("-", HIGH, LOW, -1), ("-", 0, LOW, LOW), ("-", -1, LOW, HIGH), ("-", HIGH, -1, LOW),
            ("*", 6, 7, 42), ("*", -6, 7, -42), ("*", -6, -7, 42), ("*", HIGH, HIGH, 1),
            ("*", HIGH, 2, -2), ("*", LOW, -1, LOW), ("*", LOW, LOW, 0), ("*", HIGH, LOW, LOW),
            ("*", 65536, 65536, 0), ("*", 65536, 32768, LOW), ("*", 65536, -32768, LOW),
            ("*", 46341, 46341, 46341 * 46341 - 2**32), ("*", 65535, 65537, -1),
            ("*", 123456789, 987654321, 123456789 * 987654321 % 2**32 - 2**32),
            ("*", 123456789, -987654321, -(123456789 * 987654321) % 2**32),
        ):
            with self.subTest(f"{left} {sign} {right}"):
                expression = ("op", sign, num(left), num(right))
                self.assertEqual(run_plain(expression, 0), ((), ("value", ("int", result))))

    def test_comparisons(self):
        for sign, left, right, result in (
            ("<", 1, 2, True), ("<", 2, 2, False), ("<", 3, 2, False), ("<", -2, -1, True),
            ("<", -1, -2, False), ("<", -1, 0, True), ("<", LOW, HIGH, True), ("<", HIGH, LOW, False),
            ("<", LOW, LOW + 1, True), ("<", HIGH, HIGH, False), ("<", LOW, LOW, False),
            ("==", 2, 2, True), ("==", 2, 3, False), ("==", -1, -1, True), ("==", -1, 1, False),
            ("==", LOW, LOW, True), ("==", LOW, HIGH, False), ("==", HIGH, HIGH, True), ("==", 0, 0, True),
        ):
            with self.subTest(f"{left} {sign} {right}"):
                expression = ("op", sign, num(left), num(right))
                prints, end = run_plain(expression, 0)
                self.assertEqual((prints, end), ((), ("value", ("bool", result))))
                self.assertIs(end[1][1], result)

    def test_the_edges_meet_in_texts(self):
        self.assertEqual(run("0 - 2147483647 - 2"), ((), ("value", ("int", HIGH))))
        self.assertEqual(run("2147483647 + 1 == 0 - 2147483647 - 1"), ((), ("value", ("bool", True))))
        self.assertEqual(run("2147483647 < 2147483647 + 1"), ((), ("value", ("bool", False))))
        self.assertEqual(run("print 2147483647 + 1; 65536 * 65536"), ((LOW,), ("value", ("int", 0))))

    def test_flags_and_integers_are_not_mixed_up(self):
        self.assertEqual(repr(run("(1, (true, (0, false)))")), repr(((), ("value", (
            "pair", ("int", 1), ("pair", ("bool", True), ("pair", ("int", 0), ("bool", False)))
        )))))
        self.assertIs(run("not true")[1][1][1], False)
        self.assertIs(run("not (2 < 1)")[1][1][1], True)


class SamplesTest(unittest.TestCase):
    """ME2 to ME4: the samples tell for each of them what the program does."""

    def test_programs_that_end_with_a_value(self):
        for name, text, steps, prints, end in samples.ENDING:
            with self.subTest(name):
                infer(read(text))
                self.assertEqual(run(text, steps), (prints, end))
                self.assertEqual(run(text, steps + 1), (prints, end))
                self.assertEqual(run(text, steps + 1000), (prints, end))

    def test_programs_that_ask_for_what_nobody_answers(self):
        for name, text, steps, prints, operation in samples.UNHANDLED:
            with self.subTest(name):
                infer(read(text))
                self.assertEqual(run(text, steps), (prints, ("unhandled", operation)))
                self.assertEqual(run(text, steps + 1000), (prints, ("unhandled", operation)))

    def test_programs_that_do_not_end(self):
        for name, text, times in samples.ENDLESS:
            infer(read(text))
            for steps in range(samples.MOST_STEPS + 1):
                with self.subTest(name, steps=steps):
                    prints = tuple(range(len([time for time in times if time <= steps])))
                    self.assertEqual(run(text, steps), (prints, ("steps",)))


class EvaluationTest(unittest.TestCase):
    """ME2, in more ways."""

    def test_each_part_is_evaluated_once_and_from_left_to_right(self):
        for text, value in (
            ("({}, {})", ("pair", ("int", 5), ("int", 6))), ("{} + {}", ("int", 11)),
            ("{} - {}", ("int", -1)), ("{} * {}", ("int", 30)), ("{} < {}", ("bool", True)),
            ("{} == {}", ("bool", False)),
        ):
            with self.subTest(text):
                marked = text.format("(print 1; 5)", "(print 2; 6)")
                self.assertEqual(run(marked), ((1, 2), ("value", value)))

    def test_a_part_on_the_left_that_runs_out_of_steps_hides_the_one_on_the_right(self):
        for text in (
            "((fun x => x) 1, print 2; 3)", "(fun x => x) 1 + (print 2; 3)",
            "(fun f => f) (fun x => x) (print 2; 3)", "let y = (fun x => x) 1 in print 2; 3",
            "if (fun x => x) true then print 2; 3 else print 4; 5", "print (fun x => x) 1; print 2; 3",
            "handle (fun x => x) 1 { return x => print 2; 3 }",
        ):
            with self.subTest(text):
                self.assertEqual(run(text, 0), ((), ("steps",)))

    def test_the_argument_is_evaluated_before_the_call_is_counted(self):
        self.assertEqual(run("(print 1; fun x => print 3; x) (print 2; 4)", 0), ((1, 2), ("steps",)))

    def test_prints_that_came_before_the_end_of_the_steps_stay(self):
        text = "print 1; let f = fun x => print x; x in print f 2; print f 3; print f 4; 5"
        self.assertEqual(run(text, 0), ((1,), ("steps",)))
        self.assertEqual(run(text, 1), ((1, 2, 2), ("steps",)))
        self.assertEqual(run(text, 2), ((1, 2, 2, 3, 3), ("steps",)))
        self.assertEqual(run(text, 3), ((1, 2, 2, 3, 3, 4, 4), ("value", ("int", 5))))

    def test_a_branch_that_is_not_taken_does_not_print(self):
        self.assertEqual(run("if true then 1 else print 2; 3"), ((), ("value", ("int", 1))))
        self.assertEqual(run("if 2 < 1 then print 2; 3 else 1"), ((), ("value", ("int", 1))))

    def test_a_function_does_nothing_before_it_is_called(self):
        self.assertEqual(run("let f = fun x => print x; x in 1"), ((), ("value", ("int", 1))))
        self.assertEqual(run("let f = rec g x => print x; g x in 1"), ((), ("value", ("int", 1))))

    def test_a_let_puts_a_value_in_and_evaluates_it_once(self):
        self.assertEqual(run("let p = (print 1; 2, 3) in fst p + fst p + snd p"), ((1,), ("value", ("int", 7))))

    def test_names_that_are_hidden(self):
        for text, value in (
            ("let x = 1 in let x = x + 1 in x * 10", 20),
            ("let x = 1 in (fun x => x * 10) (x + 1) + x", 21),
            ("(fun x => fun x => x) 1 2", 2),
            ("let f = 1 in (rec f x => if x == 0 then 5 else f (x - 1)) 3 + f", 6),
            ("let x = 3 in (rec f x => if x == 0 then 5 else f (x - 1)) x + x", 8),
            ("(rec f x => let f = fun y => y * 2 in f x) 4", 8),
            ("let x = 1 in handle x + 1 { return x => x * 10 }", 20),
            ("let x = 1 in (handle x { return x => let x = x + 6 in x }) + x", 8),
            ("let y = 1 in handle (let y = 5 in y) + y { return x => x * y + y }", 7),
        ):
            with self.subTest(text):
                self.assertEqual(run(text), ((), ("value", ("int", value))))

    def test_names_that_are_hidden_in_clauses(self):
        effect = "effect o : int -> int; "
        for text, value in (
            ("let y = 100 in handle ask o 1 + y { return x => x + y | o y k => k (y + 1) }", 202),
            ("let k = 100 in handle ask o 1 + k { return x => x + k | o y k => k y }", 201),
            ("let x = 100 in handle ask o 1 + x { return x => x | o y k => k (y + x) }", 201),
            ("let k = 100 in handle ask o 1 { return x => x | o k j => j k + k }", 2),
            ("handle ask o 1 { return x => x | o y k => let y = k 5 in y * 2 }", 10),
            ("handle ask o 1 { return x => x | o y k => let k = fun z => k (z * 2) in k 5 }", 10),
        ):
            with self.subTest(text):
                self.assertEqual(run(effect + text), ((), ("value", ("int", value))))

    def test_a_rec_with_the_same_name_twice_binds_the_argument(self):
        self.assertEqual(run("(rec f f => f * 10) 4"), ((), ("value", ("int", 40))))
        self.assertEqual(run("(rec f f => f 4) (fun x => x + 1)"), ((), ("value", ("int", 5))))

    def test_a_function_that_is_put_into_itself(self):
        text = "(rec even n => if n == 0 then true else not even (n - 1)) 7"
        self.assertEqual(run(text), ((), ("value", ("bool", False))))

    def test_the_clause_of_return_is_outside_of_its_handler(self):
        effect = "effect o : int -> int; "
        inner = "handle 1 { return x => ask o x | o y k => k (y * 10) }"
        self.assertEqual(run(effect + inner), ((), ("unhandled", "o")))
        outer = f"handle {inner} {{ return x => x | o y k => k (y + 5) }}"
        self.assertEqual(run(effect + outer), ((), ("value", ("int", 6))))


class AskingTest(unittest.TestCase):
    """ME3 and ME4, in more ways."""

    EFFECTS = "effect o : int -> int; effect p : int -> int; effect q : int -> int; "

    def check(self, text, prints, value):
        program = read(self.EFFECTS + text)
        infer(program)
        self.assertEqual(run_plain(program[2], 1000), (prints, ("value", ("int", value))))

    def test_what_follows_the_ask_is_not_evaluated_without_the_resumption(self):
        self.check("(handle ask o 5 + (print 1; 2) { return x => print 3; x | o y k => y + 1 }) * 2", (), 12)

    def test_a_handler_that_has_ended_does_not_answer(self):
        self.check(
            "handle (handle 1 { return x => x | o y k => print 1; k 0 }) + ask o 5 "
            "{ return x => x | o y k => print 2; k (y * 2) }", (2,), 11,
        )

    def test_the_handlers_between_go_on_behind_the_resumption(self):
        self.check(
            "handle handle ask o 1 + ask p 2 { return x => print 1; x * 2 | p y k => print 2; k (y * 10) } "
            "{ return x => print 3; x + 1 | o y k => print 4; k (y * 100) + 1000 }",
            (4, 2, 1, 3), 1241,
        )

    def test_a_clause_is_outside_of_the_handlers_between(self):
        self.check(
            "handle handle handle ask o 1 { return x => x | p y k => print 1; k 0 } "
            "{ return x => x | o y k => k (ask p y) | p y k => print 2; k 1 } "
            "{ return x => x | p y k => print 3; k (y * 7) }", (3,), 7,
        )

    def test_the_handler_of_a_resumption_answers_again(self):
        self.check(
            "handle ask o 1 + ask o 2 + ask o 3 { return x => x | o y k => print y; k (y * 10) }",
            (1, 2, 3), 60,
        )

    def test_the_return_clause_is_evaluated_for_each_resumption(self):
        self.check(
            "handle ask o 1 { return x => print x; x * 2 | o y k => k 10 + k 20 + k 30 }",
            (10, 20, 30), 120,
        )

    def test_a_resumption_that_is_called_behind_something_else(self):
        self.check(
            "handle (print 1; ask o 5) { return x => print 3; x | o y k => let z = (print 2; y) in let w = k z "
            "in print 4; w + 1 }", (1, 2, 3, 4), 6,
        )

    def test_a_resumption_that_is_called_inside_of_another_handler(self):
        # q is asked for behind the resumption, and is answered where the resumption was called.
        self.check(
            "handle handle ask o 1 + ask q 2 { return x => x | o y k => "
            "handle k 10 { return z => z + 1000 | q y k => print y; k 20 } } "
            "{ return x => x | q y k => print 0; k 0 }", (2,), 1030,
        )

    def test_a_resumption_that_is_called_when_its_first_handlers_are_gone(self):
        # The function is called below both handlers, and the resumption brings both back.
        self.check(
            "(handle handle ask o 1 + ask p 2 { return x => fun s => x * s | p y k => print 5; k (y * 10) } "
            "{ return f => f | o y k => print 6; fun s => k (y + 2) s }) 100", (6, 5), 2300,
        )

    def test_a_resumption_in_a_function_that_is_called_twice(self):
        self.check(
            "let f = handle ask o 1 { return x => fun s => x + s | o y k => fun s => k s s } in f 1 * 100 + f 5",
            (), 210,
        )

    def test_a_resumption_with_the_value_of_a_resumption(self):
        self.check(
            "handle (let a = ask o 1 in print a; a + 1) { return x => x * 2 | o y k => k (k (k y)) }",
            (1, 4, 10), 22,
        )

    def test_a_resumption_of_another_handler_in_a_resumption(self):
        self.check(
            "handle handle ask p (ask o 1) { return x => x | p y j => j y + j (y * 10) } "
            "{ return x => x | o y k => k 1 + k 2 }", (), 33,
        )

    def test_a_clause_with_the_same_name_twice_binds_the_resumption(self):
        self.check("handle ask o 1 + 100 { return x => x | o k k => k 5 + k 6 }", (), 211)

    def test_the_innermost_clause_answers_even_where_others_have_more(self):
        self.check(
            "handle handle ask p 1 { return x => x | o y k => k 0 | p y k => k (y + 1) | q y k => k 0 } "
            "{ return x => x | p y k => k 0 }", (), 2,
        )

    def test_what_an_operation_is_asked_with_is_evaluated_inside(self):
        self.check(
            "handle ask o (ask o (ask o 1)) { return x => x | o y k => print y; k (y * 2) }", (1, 2, 4), 8,
        )

    def test_pairs_and_units_and_flags_are_given_and_answered(self):
        text = (
            "effect a : (int, bool) -> (bool, unit); handle (let p = ask a (3, true) in (snd p, fst p)) "
            "{ return x => x | a p k => print fst p; k (not snd p, unit) }"
        )
        infer(read(text))
        self.assertEqual(run(text), ((3,), ("value", ("pair", ("unit",), ("bool", False)))))


if __name__ == "__main__":
    unittest.main()
