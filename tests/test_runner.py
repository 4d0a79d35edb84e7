"""Running code: the same meaning (RN1), places (RN2), answers in place (RN3), and the measure (RN4)."""

import os
import sys
import unittest

sys.path.insert(0, os.path.dirname(os.path.abspath(__file__)))

import samples
from askedfor.answers import keeps_nothing
from askedfor.code import compile_expression
from askedfor.infer import infer
from askedfor.plain import run_plain
from askedfor.reader import read
from askedfor.runner import run_code, run_kept

STEPS = ("steps",)
EFFECTS = (
    "effect a : int -> int; effect b : int -> int; effect c : int -> int; effect d : int -> int; "
    "effect flip : unit -> bool; "
)


def value(n):
    return ("value", ("int", n))


def run(text, steps):
    return run_kept(compile_expression(read(text)[2]), steps)


class RunnerTest(unittest.TestCase):
    def check(self, text, outcome, kept):
        """Check what a program prints, how it ends, and how many contexts it keeps.

        It must do what the plain meaning does for each number of steps; return how many it needs.
        """
        program = read(EFFECTS + text)
        infer(program)
        code = compile_expression(program[2])
        before, steps = 0, 0
        while True:
            with self.subTest(text, steps=steps):
                prints, end, many = run_kept(code, steps)
                self.assertEqual((prints, end), run_plain(program[2], steps))
                self.assertEqual(run_code(code, steps), (prints, end))
                self.assertGreaterEqual(many, before)
                self.assertLessEqual(many, steps)
            if end != STEPS or steps > 2000:
                break
            before, steps = many, steps + 1
        self.assertEqual(((prints, end), many), (outcome, kept))
        self.assertEqual(run_kept(code, steps + 1000), (*outcome, kept))
        if keeps_nothing(program[2]):
            self.assertEqual(kept, 0)
        return steps

    def gives(self, text, prints, n, kept):
        return self.check(text, (prints, value(n)), kept)


class SameMeaningTest(RunnerTest):
    """RN1."""

    def same(self, text, steps, outcome=None):
        expression = read(text)[2]
        code = compile_expression(expression)
        found = run_code(code, steps)
        self.assertEqual(found, run_plain(expression, steps))
        self.assertEqual(run_kept(code, steps)[:2], found)
        if outcome is not None:
            self.assertEqual(found, outcome)

    def test_programs_that_end_with_a_value(self):
        for name, text, most, prints, end in samples.ENDING:
            for steps in range(most):
                with self.subTest(name, steps=steps):
                    self.same(text, steps)
            with self.subTest(name):
                self.same(text, most, (prints, end))
                self.same(text, most + 1000, (prints, end))

    def test_programs_that_ask_for_what_nobody_answers(self):
        for name, text, most, prints, operation in samples.UNHANDLED:
            for steps in range(most):
                with self.subTest(name, steps=steps):
                    self.same(text, steps)
            with self.subTest(name):
                self.same(text, most, (prints, ("unhandled", operation)))
                self.same(text, most + 1000, (prints, ("unhandled", operation)))

    def test_programs_that_do_not_end(self):
        for name, text, times in samples.ENDLESS:
            for steps in range(samples.MOST_STEPS + 1):
                with self.subTest(name, steps=steps):
                    prints = tuple(range(len([time for time in times if time <= steps])))
                    self.same(text, steps, (prints, STEPS))

    def test_integers_at_the_edges(self):
        for sign in "+-*":
            for left in (-2**31, -2**31 + 1, -2, -1, 0, 1, 2, 65536, 2**31 - 2, 2**31 - 1):
                for right in (-2**31, -65536, -1, 0, 1, 3, 2**31 - 1):
                    with self.subTest(f"{left} {sign} {right}"):
                        expression = ("op", sign, ("num", left), ("num", right))
                        self.assertEqual(run_code(compile_expression(expression), 0), run_plain(expression, 0))

    def test_lets_choices_and_prints_inside_of_others(self):
        for text, outcome in (
            ("1 + (let x = 2 in x * 10) + (let y = 3 in let x = 4 in x * y)", ((), value(33))),
            ("let x = 1 in (let x = 2 in let y = 3 in x + y) * 10 + x", ((), value(51))),
            ("let x = 7 in (if x < 3 then let y = 1 in y else let y = 2 in y + x) + x", ((), value(16))),
            ("let x = 7 in (if x < 9 then let y = 1 in y else let y = 2 in y + x) + x", ((), value(8))),
            ("(print 1; let x = 2 in print x; x) + (print 3; 4)", ((1, 2, 3), value(6))),
            ("(if true then print 1; 2 else print 3; 4) + (if false then print 5; 6 else print 7; 8)", ((1, 7), value(10))),
            ("let f = fun x => let y = x in fun z => let x = 100 in x + y + z in f 1 2 + f 3 4", ((), value(210))),
            ("(let f = rec f x => if x < 1 then 0 else 1 + (let y = f (x - 1) in y) in f) 5", ((), value(5))),
            ("let a = 1 in let b = 2 in let c = 3 in (fun x => fun y => c * 100 + a * 10 + b + x + y) 1000 10000",
             ((), value(11312))),
        ):
            with self.subTest(text):
                for steps in range(30):
                    self.same(text, steps)
                self.same(text, 30, outcome)

    def test_long_runs(self):
        for text, steps, outcome in (
            ("(rec loop n => loop (n + 1)) 0", 300000, ((), STEPS)),
            ("(rec sum n => if n == 0 then 0 else n + sum (n - 1)) 50000", 50001, ((), value(50000 * 50001 // 2))),
            ("(rec sum n => if n == 0 then 0 else n + sum (n - 1)) 50000", 50000, ((), STEPS)),
            ("(rec loop f => loop (fun y => f (f y))) (fun x => x)", 50000, ((), STEPS)),
            (
                "(rec f n => fun g => if n == 0 then g 0 else f (n - 1) (fun y => g y + 1)) 20000 (fun x => x)",
                100000, ((), value(20000)),
            ),
            (
                "effect o : int -> int; handle (rec sum n => if n == 0 then 0 else ask o n + sum (n - 1)) 10000 "
                "{ return x => x | o y k => let z = k (y * 2) in z }", 100000, ((), value(10000 * 10001)),
            ),
            (
                "effect o : int -> int; handle (rec sum n => if n == 0 then 0 else ask o n + sum (n - 1)) 10000 "
                "{ return x => x | o y k => k (y * 2) }", 100000, ((), value(10000 * 10001)),
            ),
            (
                "effect o : int -> int; effect p : int -> int; "
                "handle (rec deep n => if n == 0 then ask o 1 + ask p 2 else "
                "handle deep (n - 1) { return x => x + 1 | p y k => k (y * 10) }) 5000 "
                "{ return x => x | o y k => k (y * 100) }", 100000, ((), value(100 + 20 + 5000)),
            ),
            (
                "effect get : unit -> int; effect put : int -> unit; (handle (rec loop u => let n = ask get unit in "
                "if n == 10000 then n else loop (ask put (n + 1))) unit { return x => fun s => (x, s) "
                "| get u k => fun s => k s s | put n k => fun s => k unit n }) 0", 100000,
                ((), ("value", ("pair", ("int", 10000), ("int", 10000)))),
            ),
            (
                # Clauses inside of clauses: each ask waits in the clause that the one before began.
                "effect o : int -> int; (rec nest n => if n == 0 then 0 else "
                "handle ask o n + 0 { return x => x | o y k => k (nest (y - 1) + 1) }) 5000", 100000, ((), value(5000)),
            ),
        ):
            with self.subTest(text):
                self.assertEqual(run(text, steps)[:2], outcome)


class PlacesTest(RunnerTest):
    """RN2."""

    HANDLERS = (
        "handle handle handle handle ({}) {{ return x => x + 1000 | a y k => {} }} "
        "{{ return x => x + 2000 | b y k => {} }} {{ return x => x + 3000 | c y k => {} }} "
        "{{ return x => x + 4000 | d y k => {} }}"
    )

    def test_each_of_many_handlers(self):
        for kind, late in (("k (y * 10)", 0), ("let z = k (y * 10) in z", 1)):
            clauses = [kind] * 4
            for asked in "abcd":
                with self.subTest(kind, asked=asked):
                    self.gives(self.HANDLERS.format(f"ask {asked} 5", *clauses), (), 10050, late)
            self.gives(
                self.HANDLERS.format("ask d 1 + (ask a 2 + (ask c 3 + ask b (ask d 4)))", *clauses),
                (), 10000 + 10 + 20 + 30 + 400, 5 * late,
            )

    def test_both_kinds_of_clauses_in_handlers_inside_one_another(self):
        kinds = ("k (y * 10)", "let z = k (y * 10) in z")
        for choice in range(16):
            late = [choice // 2**at % 2 for at in range(4)]
            clauses = [kinds[each] for each in late]
            with self.subTest(late=late):
                asks = "ask a 1 + (ask b 2 + (ask c 3 + (ask d 4 + (ask c 5 + (ask b 6 + ask a 7)))))"
                many = 2 * late[0] + 2 * late[1] + 2 * late[2] + late[3]
                self.gives(self.HANDLERS.format(asks, *clauses), (), 10000 + 280, many)

    def test_the_innermost_of_those_that_could(self):
        text = (
            "handle handle handle handle ask a 1 + ask b 1 { return x => x | c y k => k 0 } "
            "{ return x => x | a y k => k 20 } { return x => x | a y k => k 300 | b y k => k 4000 } "
            "{ return x => x | a y k => k 50000 | b y k => k 600000 }"
        )
        self.gives(text, (), 4020, 0)
        self.gives(text.replace("k 20 ", "let z = k 20 in z ").replace("k 4000 ", "let z = k 4000 in z "), (), 4020, 2)

    def test_a_handler_that_has_ended_is_not_found(self):
        self.gives(
            "handle (handle ask a 1 { return x => x | a y k => k 10 }) + ask a 1 { return x => x | a y k => k 200 }",
            (), 210, 0,
        )
        self.check("(handle ask a 1 { return x => x | a y k => k 10 }) + ask a 1", ((), ("unhandled", "a")), 0)
        self.check("(handle ask a 1 { return x => x | a y k => 10 }) + ask a 1", ((), ("unhandled", "a")), 1)

    def test_a_resumption_inside_of_other_handlers_than_at_first(self):
        # b is asked for behind the resumption of a, where its handler is another one, and how far
        # down it is depends on how many handlers there are.
        for around, result in (
            ("k 10", 10 + 5000),
            ("handle k 10 { return z => z | b y k => k 600 }", 10 + 600),
            ("handle handle k 10 { return z => z | c y k => k 0 } { return z => z | b y k => k 600 }", 10 + 600),
            ("handle handle handle k 10 { return z => z } { return z => z } { return z => z }", 10 + 5000),
            ("handle handle k 10 { return z => z | b y k => k 70 } { return z => z | b y k => k 600 }", 10 + 70),
            ("handle k 10 { return z => z | a y k => k 1 }", 10 + 5000),
        ):
            for kind, late in (("{}", 0), ("let w = {} in w", 1)):
                with self.subTest(around, kind=kind):
                    text = (
                        "handle handle handle ask a 1 + ask b 2 { return x => x | d y k => k 0 } "
                        f"{{ return x => x | a y k => let r = {around} in r }} "
                        f"{{ return x => x | b y k => {kind.format('k 5000')} }}"
                    )
                    self.gives(text, (), result, 1 + (late if result >= 5000 else 0))

    def test_several_asks_inside_of_a_resumption_that_was_moved(self):
        # All of b, c and d are asked for behind the resumption, and a again, too.
        text = (
            "handle handle handle handle ask a 1 + (ask b 1 + (ask c 1 + (ask d 1 + ask a 2))) "
            "{ return x => x | b y k => k 20 } { return x => x | a y k => %s } "
            "{ return x => x | c y k => k 300 } { return x => x | d y k => k 4000 }"
        )
        self.gives(text % "k (y * 50000)", (), 20 + 300 + 4000 + 150000, 0)
        self.gives(text % "let z = k (y * 50000) in z", (), 20 + 300 + 4000 + 150000, 2)
        moved = "handle handle k (y * 50000) { return z => z | d y k => k 7000 } { return z => z | c y k => k 800 }"
        self.gives(text % moved, (), 20 + 800 + 7000 + 150000, 2)

    def test_a_function_that_resumes_below_all_handlers(self):
        self.gives(
            "(handle handle ask a 1 + (ask b 2 + ask a 3) { return x => fun s => x + s | b y k => k (y * 10) } "
            "{ return f => f | a y k => fun s => k (y * 100) s }) 5000",
            (), 100 + 20 + 300 + 5000, 2,
        )
        self.gives(
            "handle (handle handle ask a 1 + (ask b 2 + ask c 3) { return x => fun s => x + s | b y k => k (y * 10) } "
            "{ return f => f | a y k => fun s => k (y * 100) s }) 5000 { return x => x | c y k => k (y * 1000) }",
            (), 100 + 20 + 3000 + 5000, 1,
        )

    def test_many_asks_through_many_handlers(self):
        # Each of 50000 asks goes through 2000 handlers, so each of them must be found at once.
        text = (
            "effect o : int -> int; effect p : int -> int; "
            "handle (rec deep n => if n == 0 then (rec loop m => if m == 50000 then m else loop (ask o m)) 0 else "
            "handle deep (n - 1) { return x => x | p y k => k 0 }) 2000 { return x => x | o y k => k (y + 1) }"
        )
        self.assertEqual(run(text, 1000000), ((), value(50000), 0))


class InPlaceTest(RunnerTest):
    """RN3."""

    def test_a_clause_that_asks_is_answered_further_out(self):
        # Neither its own handler nor one between answers.
        steps = self.gives(
            "handle handle handle ask a 1 { return x => x | b y k => print 1; k 0 } "
            "{ return x => x | a y k => k (ask b y) | b y k => print 2; k 0 } "
            "{ return x => x | b y k => print 3; k (y * 7) }", (3,), 7, 0,
        )
        self.assertEqual(steps, 4)
        self.gives(
            "handle handle ask a 3 { return x => x | a y k => k (ask a (y + 1)) } "
            "{ return x => x | a y k => print y; k (y * 10) }", (4,), 40, 0,
        )

    def test_a_clause_that_asks_for_what_nobody_answers_further_out(self):
        self.check("handle ask a 1 { return x => x | a y k => k (ask a y) }", ((), ("unhandled", "a")), 0)
        self.check(
            "handle handle ask a 1 { return x => x | b y k => k 0 } "
            "{ return x => x | a y k => print 1; k (ask b y) | b y k => k 0 }", ((1,), ("unhandled", "b")), 0,
        )

    def test_behind_the_clause_the_handlers_answer_again(self):
        self.gives(
            "handle handle handle ask a 1 + ask b 2 { return x => x | b y k => print 1; k 500 } "
            "{ return x => x | a y k => k (ask b y) } { return x => x | b y k => print 2; k (y * 7) }",
            (2, 1), 507, 0,
        )

    def test_a_clause_that_asks_through_several_clauses_in_place(self):
        # a is answered by asking for b, that by asking for c, and that by asking for d.
        steps = self.gives(
            "handle handle handle handle ask a 1 { return x => x | a y k => print 1; k (ask b (y + 1)) } "
            "{ return x => x | b y k => print 2; k (ask c (y * 10)) | a y k => k 0 } "
            "{ return x => x | c y k => print 3; k (ask d (y + 3)) | a y k => k 0 | b y k => k 0 } "
            "{ return x => x | d y k => print 4; k (y * 100) | a y k => k 0 | b y k => k 0 | c y k => k 0 }",
            (1, 2, 3, 4), 2300, 0,
        )
        self.assertEqual(steps, 8)

    def test_a_handler_in_the_argument_of_the_answer(self):
        # b is asked for in the clause: inside of the handler there, and outside of it.
        self.gives(
            "handle handle ask a 1 { return x => x | a y k => "
            "k ((handle ask b 2 + ask c 3 { return z => z + 1 | b y k => k (y * 10) }) + ask b 4) | c y k => k 0 } "
            "{ return x => x | b y k => k (y * 100) | c y k => k (y * 1000) }",
            (), 20 + 3000 + 1 + 400, 0,
        )

    def test_prints_and_choices_and_lets(self):
        clause = (
            "{ return x => print 9; x | a y k => print y; let z = ask b y in "
            "if z < 100 then print z; k (z + 1) else let w = ask b z in print w; k (w - 1) }"
        )
        text = "handle handle ask a %s " + clause + " { return x => x | b y k => k (y * 10) }"
        self.assertEqual(self.gives(text % 3, (3, 30, 9), 31, 0), 4)
        self.assertEqual(self.gives(text % 30, (30, 3000, 9), 2999, 0), 6)
        self.gives(text % "3 + ask a 30", (3, 30, 30, 3000, 9), 3030, 0)

    def test_the_call_of_the_resumption_is_a_step(self):
        text = EFFECTS + (
            "handle print 1; ask a 5 { return x => print 4; x | a y k => print 2; k (print 3; y + 1) }"
        )
        self.assertEqual(run(text, 0), ((1,), STEPS, 0))
        self.assertEqual(run(text, 1), ((1, 2, 3), STEPS, 0))
        self.assertEqual(run(text, 2), ((1, 2, 3, 4), value(6), 0))

    def test_every_number_of_steps_around_clauses_inside_one_another(self):
        text = EFFECTS + (
            "handle handle print 1; ask a 5 + ask a 6 { return x => print 2; x | a y k => print 3; k (ask b (print 4; y)) } "
            "{ return x => print 5; x | b y k => print 6; k (print 7; y * 10) }"
        )
        one = (3, 4, 6, 7)
        for steps, prints in enumerate((
            (1,), (1, 3, 4), (1, *one), (1, *one), (1, *one),
            (1, *one, 3, 4), (1, *one, *one), (1, *one, *one),
        )):
            with self.subTest(steps=steps):
                self.assertEqual(run(text, steps), (prints, STEPS, 0))
        self.assertEqual(run(text, 8), ((1, *one, *one, 2, 5), value(110), 0))

    def test_a_call_in_a_clause(self):
        self.gives(
            "let f = fun x => print x; x * 2 in handle ask a (f 1) { return x => f x | a y k => let z = f y in k (f z) }",
            (1, 2, 4, 8), 16, 0,
        )

    def test_a_clause_with_the_same_name_twice(self):
        self.gives("handle ask a 1 + 100 { return x => x | a k k => k 5 }", (), 105, 0)
        self.gives("let k = 7 in handle ask a 1 + k { return x => x + k | a k k => k 5 }", (), 19, 0)

    def test_names_in_a_clause(self):
        self.gives(
            "let x = 1 in let k = 20 in handle (let x = 300 in ask a x) { return z => z + x + k "
            "| a y j => let z = y + x in let x = z + k in j (x * 10) }",
            (), 3210 + 21, 0,
        )

    def test_a_context_with_a_clause_at_work_is_kept(self):
        # b goes on twice; each time the clause of a is at work, and answers with what it gets.
        steps = self.gives(
            "handle handle (print 1; ask a 1) + 1000 { return x => print x; x | a y k => let z = ask b y in print 2; k z } "
            "{ return x => x | b y k => k (y * 10) + k (y * 20) }",
            (1, 2, 1010, 2, 1020), 2030, 1,
        )
        # a, b, and both resumptions twice
        self.assertEqual(steps, 6)

    def test_a_context_with_several_clauses_at_work_is_kept(self):
        self.gives(
            "handle handle handle ask a 1 + ask c 5 { return x => x | a y k => print 1; k (ask b y + ask c 1) } "
            "{ return x => x | b y k => print 2; k (ask d y) | c y k => print 3; k y } "
            "{ return x => x | d y k => k (y * 10) + k (y * 100) | c y k => k 7000 }",
            (1, 2, 3, 3, 3, 3), (10 + 1 + 5) + (100 + 1 + 5), 1,
        )

    def test_a_context_with_a_clause_at_work_is_put_inside_of_other_handlers(self):
        # Behind the resumption the clause of a asks for c, and then the expression itself does; there
        # is a nearer handler of c now, with another one between.
        self.gives(
            "handle handle handle ask a 1 + ask c 4 { return x => x | a y k => k (ask b y + ask c 2) } "
            "{ return x => x | b y k => handle handle k (y * 10) { return z => z } "
            "{ return z => z + 5000 | c y k => print y; k (y * 100) } } "
            "{ return x => x | c y k => print 0; k 0 }",
            (2, 4), 10 + 200 + 400 + 5000, 1,
        )

    def test_a_clause_at_work_that_is_left_for_good(self):
        self.gives(
            "handle handle ask a 1 + 5 { return x => x | a y k => print 1; k (ask b y) } { return x => x | b y k => y + 7 }",
            (1,), 8, 1,
        )
        self.gives(
            "(handle handle ask a 1 + 5 { return x => x | a y k => k (ask b y) } { return x => x | b y k => y + 7 }) "
            "+ (handle ask a 100 { return x => x | a y k => k (y + 1) })", (), 109, 1,
        )

    def test_a_resumption_that_is_kept_inside_of_a_clause_at_work(self):
        # The argument of the answer has a handler of its own that keeps, and calls twice.
        self.gives(
            "handle ask a 1 + ask a 2 { return x => x | a y k => "
            "k (handle ask b y + ask b 10 { return z => z | b y k => k y + k (y * 2) }) }",
            # for y: (y + 10) + (y + 20) + (2y + 10) + (2y + 20)
            (), 6 * 1 + 60 + 6 * 2 + 60, 6,
        )

    def test_a_loop_in_a_handler_and_one_in_its_clause(self):
        self.gives(
            "handle (rec loop n => if n < 50 then loop (ask a n) else n) 0 { return x => x | a y k => "
            "k ((rec add m => if m == 0 then y else 1 + add (m - 1)) 10) }", (), 50, 0,
        )

    def test_clauses_that_answer_at_once_and_others_in_one_handler(self):
        for first, second, kept in (
            ("k (y * 10)", "k (y * 100)", 0), ("k (y * 10)", "let z = k (y * 100) in z", 2),
            ("let z = k (y * 10) in z", "k (y * 100)", 1), ("let z = k (y * 10) in z", "let z = k (y * 100) in z", 3),
        ):
            self.gives(
                "handle ask b 1 + (ask a 2 + ask b 3) { return x => x | a y k => %s | b y k => %s }" % (first, second),
                (), 100 + 20 + 300, kept,
            )


class MeasureTest(RunnerTest):
    """RN4."""

    def test_nothing_is_kept_where_all_clauses_answer_at_once(self):
        for _, text, most, _, _ in samples.ENDING + samples.UNHANDLED:
            expression = read(text)[2]
            if keeps_nothing(expression):
                self.assertEqual(run_kept(compile_expression(expression), most)[2], 0)
        self.gives("handle ask a 1 + ask a 2 { return x => x | a y k => print y; k (y + 1) }", (1, 2), 5, 0)
        self.gives("1 + 2", (), 3, 0)

    def test_the_asks_that_other_clauses_answer_are_counted(self):
        self.gives("handle ask a 1 { return x => x | a y k => y }", (), 1, 1)
        self.gives("handle ask a 1 { return x => x | a y k => k y + 1 }", (), 2, 1)
        self.gives("handle ask a 1 + ask a 2 { return x => x | a y k => k y + 1 }", (), 5, 2)
        # Not the number of pieces, and not the number of resumptions.
        self.gives("handle handle handle ask a 1 { return x => x } { return x => x } { return x => x | a y k => k y + 1 }",
                   (), 2, 1)
        self.gives("handle ask a 1 { return x => x | a y k => k 1 + k 2 + k 3 }", (), 6, 1)

    def test_an_ask_that_is_run_again(self):
        # The first is answered once, and the second once in each of the ways that go on from there.
        self.gives("handle ask a 1 + ask a 2 { return x => x | a y k => k y + k (y * 10) }", (), 66, 3)
        self.gives("handle ask a 1 + (ask a 2 + ask a 3) { return x => x | a y k => k y + k (y * 10) }", (), 264, 7)
        self.gives(
            "handle (if ask flip unit then ask a 1 else ask a 2 + ask a 3) "
            "{ return x => x | flip u k => k true + k false | a y k => let z = k y in z }", (), 6, 4,
        )

    def test_each_number_of_steps(self):
        text = EFFECTS + "handle ask a 1 + ask a 2 { return x => x | a y k => k y + k (y * 10) }"
        # a 1, k, a 2, k, k, then k, a 2, k, k
        for steps, kept in enumerate((0, 1, 1, 2, 2, 2, 2, 3, 3, 3)):
            with self.subTest(steps=steps):
                self.assertEqual(run(text, steps)[2], kept)
        self.assertEqual(run(text, 8)[1], STEPS)
        self.assertEqual(run(text, 9), ((), value(66), 3))

    def test_a_run_that_ends_with_its_steps(self):
        text = "effect o : int -> int; handle (rec loop n => loop (ask o n)) 0 { return x => x | o y k => k y + 1 }"
        # loop, and in each round o, k and loop
        for steps in range(40):
            self.assertEqual(run(text, steps), ((), STEPS, (steps + 1) // 3))

    def test_an_ask_that_nobody_answers_keeps_nothing(self):
        self.check("ask a 1", ((), ("unhandled", "a")), 0)
        self.check("handle ask a 1 { return x => x | b y k => 1 }", ((), ("unhandled", "a")), 0)
        self.check("handle ask a 1 { return x => x | a y k => ask a 1 }", ((), ("unhandled", "a")), 1)
        self.assertEqual(run(EFFECTS + "handle ask a 1 { return x => x | a y k => 1 }", 0), ((), STEPS, 0))

    def test_both_kinds_together(self):
        self.gives(
            "handle handle ask a 1 + (ask b 2 + ask a 3) { return x => x | a y k => k (ask b y) } "
            "{ return x => x | b y k => let z = k (y * 10) in z + 1000 }", (), 60 + 3000, 3,
        )


if __name__ == "__main__":
    unittest.main()
