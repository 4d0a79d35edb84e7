"""Steps and ends (ME5), with the plain meaning."""

import os
import sys
import unittest

sys.path.insert(0, os.path.dirname(os.path.abspath(__file__)))

import samples
from askedfor.infer import infer
from askedfor.plain import run_plain
from askedfor.reader import read
from askedfor.runs import shape

STEPS = ("steps",)


def value(n):
    return ("value", ("int", n))


class EachStepTest(unittest.TestCase):
    """For each number of steps from 0 on what is printed, and how the run ends."""

    def check(self, text, outcomes):
        program = read(text)
        infer(program)
        for steps, outcome in enumerate(outcomes):
            with self.subTest(steps=steps):
                self.assertEqual(run_plain(program[2], steps), outcome)
        self.assertEqual(run_plain(program[2], len(outcomes) + 100), outcomes[-1])

    def test_no_step(self):
        self.check("let x = print 1; 2 in if x < 3 then x * 4 else 5", [((1,), value(8))])
        self.check("handle print 1; 2 { return x => print x; 3 }", [((1, 2), value(3))])
        self.check("(fun x => x, rec f x => f x)", [((), ("value", ("pair", ("fun",), ("fun",))))])

    def test_a_call_is_counted_when_its_argument_is_known(self):
        self.check("(print 1; fun x => print 3; x) (print 2; 4)", [((1, 2), STEPS), ((1, 2, 3), value(4))])

    def test_calls_inside_one_another(self):
        self.check(
            "(fun x => print x; fun y => print y; x + y) ((fun z => print z; z + 1) 1) (print 9; 3)",
            [((), STEPS), ((1,), STEPS), ((1, 2, 9), STEPS), ((1, 2, 9, 3), value(5))],
        )

    def test_a_recursion(self):
        self.check(
            "(rec f n => if n == 0 then 0 else print n; n + f (n - 1)) 3",
            [((), STEPS), ((3,), STEPS), ((3, 2), STEPS), ((3, 2, 1), STEPS), ((3, 2, 1), value(6))],
        )

    def test_an_ask_and_a_resumption(self):
        self.check(
            "effect o : int -> int; handle ask o (print 1; 5) "
            "{ return x => print 4; x | o y k => print 2; k (print 3; y + 1) }",
            [((1,), STEPS), ((1, 2, 3), STEPS), ((1, 2, 3, 4), value(6))],
        )

    def test_the_example_of_both_ways(self):
        self.check(
            "effect c : unit -> bool; handle (if ask c unit then print 1; 2 else print 3; 4) "
            "{ return x => x | c u k => k true + k false }",
            [((), STEPS), ((), STEPS), ((1,), STEPS), ((1, 3), value(6))],
        )

    def test_a_resumption_in_a_function(self):
        self.check(
            "effect o : int -> int; (handle (print 1; ask o 5) + 1 "
            "{ return x => print 4; fun s => print 5; x + s | o y k => print 2; fun s => print 3; k (y + s) s }) "
            "(print 6; 3)",
            [
                ((1,), STEPS),              # the ask
                ((1, 2, 6), STEPS),         # the function that the clause gives
                ((1, 2, 6, 3), STEPS),      # the resumption
                ((1, 2, 6, 3, 4), STEPS),   # the function that the return clause gives
                ((1, 2, 6, 3, 4, 5), value(12)),
            ],
        )

    def test_a_clause_that_does_not_resume(self):
        self.check(
            "effect o : int -> int; handle (print 1; ask o 5) + (print 2; 1) { return x => x | o y k => print y; 7 }",
            [((1,), STEPS), ((1, 5), value(7))],
        )

    def test_an_ask_that_nobody_answers_needs_a_step(self):
        self.check("effect o : int -> int; ask o (print 1; 2)", [((1,), STEPS), ((1,), ("unhandled", "o"))])

    def test_an_ask_that_nobody_answers_behind_others(self):
        self.check(
            "effect o : int -> int; effect p : int -> int; "
            "handle ask o (print 1; 2) + ask p (print 3; 4) { return x => print 5; x | o y k => k y }",
            [((1,), STEPS), ((1,), STEPS), ((1, 3), STEPS), ((1, 3), ("unhandled", "p"))],
        )

    def test_a_state(self):
        self.check(
            "effect get : unit -> int; effect put : int -> unit; "
            "(handle (let u = ask put 5 in print 1; ask get unit + 1) "
            "{ return x => print 2; fun s => (x, s) | get u k => print 3; fun s => k s s "
            "| put n k => print 4; fun s => k unit n }) 2",
            [
                ((), STEPS),                # put
                ((4,), STEPS),              # the function of its clause
                ((4,), STEPS),              # its resumption
                ((4, 1), STEPS),            # get
                ((4, 1, 3), STEPS),         # the function of its clause
                ((4, 1, 3), STEPS),         # its resumption
                ((4, 1, 3, 2), STEPS),      # the function of the return clause
                ((4, 1, 3, 2), ("value", ("pair", ("int", 6), ("int", 5)))),
            ],
        )

    def test_each_sample_runs_out_of_steps_before_its_last_one(self):
        for name, text, most, prints, end in samples.ENDING + tuple(
            (name, text, most, prints, ("unhandled", operation))
            for name, text, most, prints, operation in samples.UNHANDLED
        ):
            expression = read(text)[2]
            before = ()
            for steps in range(most):
                with self.subTest(name, steps=steps):
                    printed, ended = run_plain(expression, steps)
                    self.assertEqual(ended, STEPS)
                    self.assertEqual(printed, prints[:len(printed)])
                    self.assertEqual(printed[:len(before)], before)
                    before = printed
            self.assertEqual(run_plain(expression, most), (prints, end))


class ShapeTest(unittest.TestCase):
    def check(self, text, found):
        self.assertEqual(run_plain(read(text)[2], 100), ((), ("value", found)))

    def test_the_shape_of_each_kind_of_value(self):
        self.check("7", ("int", 7))
        self.check("0 - 7", ("int", -7))
        self.check("true", ("bool", True))
        self.check("false", ("bool", False))
        self.check("unit", ("unit",))
        self.check("fun x => x", ("fun",))
        self.check("rec f x => x", ("fun",))
        self.check("(1, true)", ("pair", ("int", 1), ("bool", True)))

    def test_values_in_pairs(self):
        self.check(
            "((fun x => x, unit), (rec f x => 1, (2, (false, 3))))",
            ("pair", ("pair", ("fun",), ("unit",)),
             ("pair", ("fun",), ("pair", ("int", 2), ("pair", ("bool", False), ("int", 3))))),
        )

    def test_a_resumption_has_the_shape_of_a_function(self):
        # No program that is accepted ends with one: its type would have to contain itself.
        self.assertEqual(shape(("pair", ("kept", ([], [])), ("num", 1))), ("pair", ("fun",), ("int", 1)))
        self.assertEqual(shape(("kept", ([], []))), ("fun",))

    def test_a_function_that_holds_a_resumption(self):
        self.check(
            "effect o : int -> int; handle ask o 1 { return x => (fun s => x, x) | o y k => (fun s => fst (k s) s, y) }",
            ("pair", ("fun",), ("int", 1)),
        )

    def test_pairs_that_are_much_deeper_than_the_expression(self):
        text = ""
        for n in range(12):
            text += "let p = " + "(" * 20 + ("p" if n else "unit") + ", 1)" * 20 + " in "
        found = ("unit",)
        for _ in range(240):
            found = ("pair", found, ("int", 1))
        program = read(text + "p")
        infer(program)
        self.assertEqual(run_plain(program[2], 0), ((), ("value", found)))


class LongTest(unittest.TestCase):
    """What a run builds may be far deeper than what was passed."""

    def run_text(self, text, steps):
        program = read(text)
        infer(program)
        return run_plain(program[2], steps)

    def test_a_loop_with_many_steps(self):
        self.assertEqual(self.run_text("(rec loop n => loop (n + 1)) 0", 100000), ((), STEPS))
        prints, end = self.run_text("(rec loop n => print n; loop (n + 1)) 0", 30000)
        self.assertEqual((prints, end), (tuple(range(30000)), STEPS))

    def test_a_recursion_that_waits_many_rounds(self):
        text = "(rec sum n => if n == 0 then 0 else n + sum (n - 1)) 30000"
        self.assertEqual(self.run_text(text, 30001), ((), value(30000 * 30001 // 2)))
        self.assertEqual(self.run_text(text, 30000), ((), STEPS))
        self.assertEqual(self.run_text("(rec loop n => loop n + 1) 0", 30000), ((), STEPS))

    def test_functions_in_functions(self):
        text = "(rec loop f => loop (fun y => f (f y))) (fun x => x)"
        self.assertEqual(self.run_text(text, 30000), ((), STEPS))
        # Each function adds 1 to what the one inside of it gives.
        text = "(rec f n => fun g => if n == 0 then g 0 else f (n - 1) (fun y => g y + 1)) 10000 (fun x => x)"
        self.assertEqual(self.run_text(text, 100000), ((), value(10000)))

    def test_a_loop_that_asks_many_times(self):
        text = (
            "effect o : int -> int; handle (rec loop n => if n == 10000 then n else loop (ask o n)) 0 "
            "{ return x => x * 2 | o y k => k (y + 1) }"
        )
        self.assertEqual(self.run_text(text, 100000), ((), value(20000)))

    def test_answers_that_wait_many_rounds(self):
        text = (
            "effect o : int -> int; handle (rec loop n => if n == 10000 then n else loop (ask o n)) 0 "
            "{ return x => x * 2 | o y k => k (y + 1) + 1 }"
        )
        self.assertEqual(self.run_text(text, 100000), ((), value(30000)))

    def test_asks_in_a_recursion_that_waits(self):
        text = (
            "effect o : int -> int; handle (rec sum n => if n == 0 then 0 else ask o n + sum (n - 1)) 2000 "
            "{ return x => x | o y k => let z = k (y * 2) in z }"
        )
        self.assertEqual(self.run_text(text, 100000), ((), value(2000 * 2001)))

    def test_handlers_inside_one_another_many_times(self):
        text = (
            "effect o : int -> int; effect p : int -> int; "
            "handle (rec deep n => if n == 0 then ask o 1 + ask p 2 else "
            "handle deep (n - 1) { return x => x + 1 | p y k => k (y * 10) }) 2000 "
            "{ return x => x | o y k => k (y * 100) }"
        )
        self.assertEqual(self.run_text(text, 100000), ((), value(100 + 20 + 2000)))

    def test_a_state_in_resumptions_in_functions(self):
        text = (
            "effect get : unit -> int; effect put : int -> unit; "
            "(handle (rec loop u => let n = ask get unit in if n == 5000 then n else loop (ask put (n + 1))) unit "
            "{ return x => fun s => (x, s) | get u k => fun s => k s s | put n k => fun s => k unit n }) 0"
        )
        found = ("value", ("pair", ("int", 5000), ("int", 5000)))
        self.assertEqual(self.run_text(text, 100000), ((), found))

    def test_resumptions_in_resumptions(self):
        # Each round waits in a resumption for the function of the round before it.
        text = (
            "effect o : unit -> int; (rec loop n => fun f => if n == 0 then f 0 else loop (n - 1) (handle "
            "(let a = ask o unit in fun s => a + f s) { return g => g | o u k => fun s => k 1 s })) 3000 (fun s => s)"
        )
        self.assertEqual(self.run_text(text, 1000000), ((), value(3000)))


if __name__ == "__main__":
    unittest.main()
