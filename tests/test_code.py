"""Compiling (CO1): the same code runs in the same way, however often."""

import os
import sys
import unittest

sys.path.insert(0, os.path.dirname(os.path.abspath(__file__)))

import samples
from askedfor.code import compile_expression
from askedfor.plain import run_plain
from askedfor.reader import read
from askedfor.runner import run_code, run_kept

ALL = [(name, text, most) for name, text, most, _, _ in samples.ENDING + samples.UNHANDLED]
ALL += [(name, text, samples.MOST_STEPS) for name, text, _ in samples.ENDLESS]


class CodeTest(unittest.TestCase):
    def test_compiling_again_gives_code_that_runs_in_the_same_way(self):
        for name, text, most in ALL:
            expression = read(text)[2]
            first, second = compile_expression(expression), compile_expression(expression)
            third = compile_expression(read(text)[2])
            for steps in range(most + 2):
                with self.subTest(name, steps=steps):
                    found = run_kept(first, steps)
                    self.assertEqual(run_kept(second, steps), found)
                    self.assertEqual(run_kept(third, steps), found)
                    self.assertEqual(found[:2], run_plain(expression, steps))

    def test_running_again_gives_the_same(self):
        for name, text, most in ALL:
            code = compile_expression(read(text)[2])
            for steps in (most, 0, most, most + 5, 1, most // 2, most):
                with self.subTest(name, steps=steps):
                    fresh = compile_expression(read(text)[2])
                    found = run_kept(fresh, steps)
                    self.assertEqual(run_kept(code, steps), found)
                    self.assertEqual(run_kept(code, steps), found)
                    self.assertEqual(run_code(code, steps), found[:2])

    def test_running_other_code_in_between(self):
        codes = [(compile_expression(read(text)[2]), most) for _, text, most in ALL]
        before = [run_kept(code, most) for code, most in codes]
        self.assertEqual([run_kept(code, most) for code, most in codes], before)
        self.assertEqual([run_kept(code, most) for code, most in codes[::-1]], before[::-1])
        kept = compile_expression(read(
            "effect o : int -> int; handle ask o 1 + ask o 2 { return x => x | o y k => k y + k (y * 10) }"
        )[2])
        at_once = compile_expression(read(
            "effect o : int -> int; handle ask o 1 + ask o 2 { return x => x | o y k => print y; k (y * 10) }"
        )[2])
        for _ in range(3):
            self.assertEqual(run_kept(kept, 9), ((), ("value", ("int", 66)), 3))
            self.assertEqual(run_kept(at_once, 3), ((1, 2), ("steps",), 0))
            self.assertEqual(run_kept(at_once, 4), ((1, 2), ("value", ("int", 30)), 0))
            self.assertEqual(run_kept(kept, 4), ((), ("steps",), 2))

    def test_the_expression_is_not_changed(self):
        for name, text, most in ALL:
            with self.subTest(name):
                expression = read(text)[2]
                code = compile_expression(expression)
                self.assertEqual(expression, read(text)[2])
                run_code(code, most)
                self.assertEqual(expression, read(text)[2])

    def test_the_example(self):
        text = "effect o : int -> int; handle ask o 3 + ask o 4 { return x => (x, 0) | o y k => k (y * 10) }"
        code = compile_expression(read(text)[2])
        self.assertEqual(run_kept(code, 10), ((), ("value", ("pair", ("int", 70), ("int", 0))), 0))
        self.assertEqual(run_code(code, 10), ((), ("value", ("pair", ("int", 70), ("int", 0)))))
        self.assertEqual(run_code(code, 3), ((), ("steps",)))


if __name__ == "__main__":
    unittest.main()
