"""The machine: the same meaning (MC1), and what it measures (MC2)."""

import os
import sys
import unittest

sys.path.insert(0, os.path.dirname(os.path.abspath(__file__)))

import samples
from askedfor.infer import infer
from askedfor.machine import run_counted, run_machine
from askedfor.plain import run_plain
from askedfor.reader import read

STEPS = ("steps",)
EFFECTS = "effect a : int -> int; effect b : int -> int; effect c : int -> int; effect flip : unit -> bool; "


def value(n):
    return ("value", ("int", n))


class SameMeaningTest(unittest.TestCase):
    """MC1."""

    def check(self, text, steps, outcome=None):
        expression = read(text)[2]
        found = run_machine(expression, steps)
        self.assertEqual(found, run_plain(expression, steps))
        self.assertEqual(run_counted(expression, steps)[:2], found)
        if outcome is not None:
            self.assertEqual(found, outcome)

    def test_programs_that_end_with_a_value(self):
        for name, text, most, prints, end in samples.ENDING:
            for steps in range(most):
                with self.subTest(name, steps=steps):
                    self.check(text, steps)
            with self.subTest(name):
                self.check(text, most, (prints, end))
                self.check(text, most + 1000, (prints, end))

    def test_programs_that_ask_for_what_nobody_answers(self):
        for name, text, most, prints, operation in samples.UNHANDLED:
            for steps in range(most):
                with self.subTest(name, steps=steps):
                    self.check(text, steps)
            with self.subTest(name):
                self.check(text, most, (prints, ("unhandled", operation)))
                self.check(text, most + 1000, (prints, ("unhandled", operation)))

    def test_programs_that_do_not_end(self):
        for name, text, times in samples.ENDLESS:
            for steps in range(samples.MOST_STEPS + 1):
                with self.subTest(name, steps=steps):
                    prints = tuple(range(len([time for time in times if time <= steps])))
                    self.check(text, steps, (prints, STEPS))

    def test_integers_at_the_edges(self):
        for sign in "+-*":
            for left in (-2**31, -2**31 + 1, -2, -1, 0, 1, 2, 65536, 2**31 - 2, 2**31 - 1):
                for right in (-2**31, -65536, -1, 0, 1, 3, 2**31 - 1):
                    with self.subTest(f"{left} {sign} {right}"):
                        expression = ("op", sign, ("num", left), ("num", right))
                        self.assertEqual(run_machine(expression, 0), run_plain(expression, 0))

    def test_long_runs(self):
        for text, steps, outcome in (
            ("(rec loop n => loop (n + 1)) 0", 100000, ((), STEPS)),
            ("(rec sum n => if n == 0 then 0 else n + sum (n - 1)) 30000", 30001, ((), value(30000 * 30001 // 2))),
            ("(rec sum n => if n == 0 then 0 else n + sum (n - 1)) 30000", 30000, ((), STEPS)),
            ("(rec loop f => loop (fun y => f (f y))) (fun x => x)", 30000, ((), STEPS)),
            (
                "(rec f n => fun g => if n == 0 then g 0 else f (n - 1) (fun y => g y + 1)) 10000 (fun x => x)",
                100000, ((), value(10000)),
            ),
            (
                "effect o : int -> int; handle (rec sum n => if n == 0 then 0 else ask o n + sum (n - 1)) 3000 "
                "{ return x => x | o y k => let z = k (y * 2) in z }", 100000, ((), value(3000 * 3001)),
            ),
            (
                "effect o : int -> int; effect p : int -> int; "
                "handle (rec deep n => if n == 0 then ask o 1 + ask p 2 else "
                "handle deep (n - 1) { return x => x + 1 | p y k => k (y * 10) }) 2000 "
                "{ return x => x | o y k => k (y * 100) }", 100000, ((), value(100 + 20 + 2000)),
            ),
            (
                "effect get : unit -> int; effect put : int -> unit; (handle (rec loop u => let n = ask get unit in "
                "if n == 5000 then n else loop (ask put (n + 1))) unit { return x => fun s => (x, s) "
                "| get u k => fun s => k s s | put n k => fun s => k unit n }) 0", 100000,
                ((), ("value", ("pair", ("int", 5000), ("int", 5000)))),
            ),
        ):
            with self.subTest(text):
                self.assertEqual(run_machine(read(text)[2], steps), outcome)


class MeasuresTest(unittest.TestCase):
    """MC2."""

    def check(self, text, found):
        """Check the pieces that were kept, and the most pieces, for each number of steps from 0 on."""
        program = read(EFFECTS + text)
        infer(program)
        for steps, counts in enumerate(found):
            with self.subTest(steps=steps):
                self.assertEqual(run_counted(program[2], steps)[2], counts)
        # The last one is that of the whole run.
        prints, end, counts = run_counted(program[2], len(found) + 100)
        self.assertEqual(counts, found[-1])
        self.assertNotEqual(end, STEPS)
        self.assertEqual(run_counted(program[2], len(found) - 1), (prints, end, counts))

    def test_no_handler(self):
        self.check("1 + 2", [(0, 1)])
        self.check("(rec f n => if n == 0 then 0 else f (n - 1) + 1) 3", [(0, 1)] * 5)
        self.check("ask a 1", [(0, 1)] * 2)

    def test_a_handler_that_does_not_answer(self):
        self.check("handle 1 { return x => x }", [(0, 2)])
        self.check("handle 1 { return x => x | a y k => k y }", [(0, 2)])
        self.check("(handle 1 { return x => x }) + (handle 2 { return x => x })", [(0, 2)])

    def test_a_handler_that_begins_and_runs_out_of_steps(self):
        self.check("handle (fun x => x) 1 { return x => x }", [(0, 2), (0, 2)])
        self.check("(fun x => handle x { return y => y }) 1", [(0, 1), (0, 2)])
        self.check("handle handle (fun x => x) 1 { return x => x } { return x => x }", [(0, 3), (0, 3)])

    def test_the_example_of_the_interface(self):
        text = "handle ask a 3 + ask a 4 { return x => (x, 0) | a y k => k (y * 10) }"
        self.check(text, [(0, 2), (1, 2), (1, 2), (2, 2), (2, 2)])
        self.assertEqual(
            run_counted(read(EFFECTS + text)[2], 10), ((), ("value", ("pair", ("int", 70), ("int", 0))), (2, 2))
        )

    def test_the_pieces_from_that_of_the_handler_to_the_uppermost_one_are_kept(self):
        handlers = (
            "handle handle handle {} { return x => x | a y k => k y } { return x => x | b y k => k y } "
            "{ return x => x | c y k => k y }"
        )
        for asked, kept in (("ask a 1", 1), ("ask b 1", 2), ("ask c 1", 3)):
            with self.subTest(asked):
                self.check(handlers.replace("{}", asked), [(0, 4), (kept, 4), (kept, 4)])
        self.check(
            handlers.replace("{}", "(ask b 1 + ask a 2) + ask c 3"),
            [(0, 4), (2, 4), (2, 4), (3, 4), (3, 4), (6, 4), (6, 4)],
        )

    def test_an_ask_that_nobody_answers_keeps_nothing(self):
        self.check("handle handle ask c 1 { return x => x | a y k => k y } { return x => x | b y k => k y }",
                   [(0, 3), (0, 3)])
        self.check("handle ask a 1 { return x => x | a y k => ask a y }", [(0, 2), (1, 2), (1, 2)])

    def test_a_clause_that_does_not_resume(self):
        self.check("handle handle ask a 1 { return x => x } { return x => x | a y k => 7 }", [(0, 3), (2, 3)])

    def test_a_resumption_that_is_called_twice(self):
        # flip in both ways: a is asked for in each of them, with both handlers on the stack again.
        self.check(
            "handle handle (if ask flip unit then ask a 1 else ask a 2) { return x => x | a y k => k y } "
            "{ return x => x | flip u k => k true + k false }",
            # flip; k true, a, its k; k false, a, its k
            [(0, 3), (2, 3), (2, 3), (3, 3), (3, 3), (3, 3), (4, 3), (4, 3)],
        )

    def test_a_resumption_that_is_called_inside_of_another_handler(self):
        # The handler of b is on the stack when the pieces of a are put back: 1 + 1 + 2.
        self.check(
            "handle handle ask a 1 + ask b 2 { return x => x } "
            "{ return x => x | a y k => handle k y { return z => z | b y k => k y } }",
            [(0, 3), (2, 3), (2, 4), (5, 4), (5, 4)],
        )

    def test_a_resumption_inside_of_its_own_handler_again(self):
        # The pieces are put back on top of themselves where the argument is a resumption's value.
        self.check(
            "handle ask a 1 + 1 { return x => x | a y k => let z = k y in handle k z { return w => w } }",
            [(0, 2), (1, 2), (1, 2), (1, 3)],
        )

    def test_a_handler_is_off_the_stack_before_its_return_clause(self):
        self.check("handle 1 { return x => handle x { return y => handle y { return z => z } } }", [(0, 2)])
        self.check("handle handle 1 { return x => handle x { return y => y } } { return x => x }", [(0, 3)])

    def test_a_handler_is_off_the_stack_before_its_clause(self):
        self.check("handle ask a 1 { return x => x | a y k => handle y { return z => z } }", [(0, 2), (1, 2)])
        self.check(
            "handle handle ask a 1 { return x => x } "
            "{ return x => x | a y k => handle handle y { return z => z } { return z => z } }",
            [(0, 3), (2, 3)],
        )

    def test_more_pieces_in_a_clause_than_before(self):
        self.check(
            "handle ask a 1 { return x => x | a y k => handle handle k y { return z => z } { return z => z } }",
            [(0, 2), (1, 3), (1, 4)],
        )

    def test_a_state_puts_its_piece_back_each_time(self):
        self.check(
            "(handle ask a 1 + ask a 2 { return x => fun s => x + s | a y k => fun s => k y (s + 1) }) 5",
            [(0, 2), (1, 2), (1, 2), (1, 2), (2, 2), (2, 2), (2, 2), (2, 2)],
        )

    def test_handlers_that_a_loop_begins(self):
        expression = read("(rec loop n => handle loop n { return x => x }) 0")[2]
        for steps in range(20):
            self.assertEqual(run_counted(expression, steps), ((), STEPS, (0, steps + 1)))

    def test_what_is_kept_again_and_again(self):
        expression = read(
            "effect o : int -> int; handle (rec loop n => loop (ask o n)) 0 { return x => x | o y k => k y }"
        )[2]
        # loop, and in each round o, k and loop
        for steps in range(40):
            self.assertEqual(run_counted(expression, steps), ((), STEPS, ((steps + 1) // 3, 2)))


class PassedTest(unittest.TestCase):
    def test_running_again_gives_the_same(self):
        for _, text, most, prints, end in samples.ENDING:
            expression = read(text)[2]
            first = run_counted(expression, most)
            self.assertEqual(run_counted(expression, most), first)
            self.assertEqual(expression, read(text)[2])
            self.assertEqual(first[:2], (prints, end))
            self.assertIsInstance(first[0], tuple)


if __name__ == "__main__":
    unittest.main()
