"""The whole: roads (WH1), letting by (WH2), and facts (WH3)."""

import os
import random
import sys
import unittest

sys.path.insert(0, os.path.dirname(os.path.abspath(__file__)))

import samples
from askedfor.code import compile_expression
from askedfor.errors import Malformed, Mismatched, Twice, Unbounded, Unhandled, Unknown
from askedfor.infer import infer
from askedfor.machine import run_counted, run_machine
from askedfor.plain import run_plain
from askedfor.reader import read
from askedfor.runner import run_code, run_kept
from askedfor.whole import all_outcomes, outcome
from askedfor.writer import show

STEPS = ("steps",)
ROADS = ("plain", "machine", "code")
STATE = (
    "effect get : unit -> int; effect put : int -> unit; "
    "(handle (let u = ask put 5 in ask get unit + 1) { return x => fun s => (x, s) "
    "| get u k => fun s => k s s | put n k => fun s => k unit n }) 2"
)


def let_by_samples():
    """The samples whose operations are all handled, each with a number of steps that is enough."""
    found = [(name, text, most) for name, text, most, _, _ in samples.ENDING]
    return found + [(name, text, samples.MOST_STEPS) for name, text, _ in samples.ENDLESS]


class WholeTest(unittest.TestCase):
    def raises(self, error, field, text, steps=10, **road):
        with self.assertRaises(error) as caught:
            outcome(text, steps, **road)
        self.assertIs(caught.exception.__class__, error)
        self.assertEqual(list(vars(caught.exception).values()), [field])

    def raises_everywhere(self, error, field, text):
        for road in ROADS:
            with self.subTest(text[:60], road=road):
                self.raises(error, field, text, road=road)
        self.raises(error, field, text)
        self.raises(error, field, text, steps=0)
        with self.assertRaises(error) as caught:
            all_outcomes(text, 10)
        self.assertEqual(list(vars(caught.exception).values()), [field])


class RoadsTest(WholeTest):
    """WH1."""

    def test_each_road_gives_what_its_function_gives(self):
        for name, text, most in let_by_samples():
            expression = read(text)[2]
            code = compile_expression(expression)
            for steps in range(most + 2):
                with self.subTest(name, steps=steps):
                    plain = run_plain(expression, steps)
                    machine = run_machine(expression, steps)
                    coded = run_code(code, steps)
                    self.assertEqual(outcome(text, steps, road="plain"), plain)
                    self.assertEqual(outcome(text, steps, road="machine"), machine)
                    self.assertEqual(outcome(text, steps, road="code"), coded)
                    self.assertEqual(outcome(text, steps), coded)
                    self.assertEqual(all_outcomes(text, steps), [plain, machine, coded])

    def test_the_examples(self):
        found = ((), ("value", ("pair", ("int", 6), ("int", 5))))
        self.assertEqual(all_outcomes(STATE, 50), [found, found, found])
        self.assertEqual(all_outcomes(STATE, 50)[0], found)
        self.raises(Unhandled, "o", "effect o : int -> int; ask o 1", 5)

    def test_the_road_is_passed_by_keyword(self):
        with self.assertRaises(TypeError):
            outcome("1", 5, "plain")

    def test_the_road_that_is_run_is_the_one_that_was_asked_for(self):
        # All give the same, so each road is replaced by a mark here.
        import askedfor.whole as whole

        marks = {"run_plain": "plain", "run_machine": "machine", "run_code": "code"}
        kept = {name: getattr(whole, name) for name in marks}
        try:
            for name, mark in marks.items():
                setattr(whole, name, lambda given, steps, mark=mark: (mark, steps))
            for road in ROADS:
                self.assertEqual(outcome("1 + 2", 7, road=road), (road, 7))
            self.assertEqual(outcome("1 + 2", 7), ("code", 7))
            self.assertEqual(all_outcomes("1 + 2", 7), [(road, 7) for road in ROADS])
        finally:
            for name, function in kept.items():
                setattr(whole, name, function)

    def test_a_road_that_is_none_of_the_three(self):
        for road in ("", "Plain", "codes", "run_plain", "code ", "trees", "plain machine"):
            for text in (
                "1", "1 +", "x", "true + 1", "?", "effect o : int -> int; ask o 1", " " * 10001, "(" * 70 + "1" + ")" * 70,
                "effect o : int -> int; effect o : int -> int; 1",
            ):
                with self.subTest(road=road, text=text[:40]):
                    self.raises(Unknown, road, text, road=road)
                    self.raises(Unknown, road, text, steps=0, road=road)

    def test_what_is_returned_shares_nothing(self):
        first, second = all_outcomes(STATE, 50), all_outcomes(STATE, 50)
        first.append(1)
        first[0] = 2
        self.assertEqual(all_outcomes(STATE, 50), second)
        self.assertEqual(len(second), 3)


class LettingByTest(WholeTest):
    """WH2."""

    def test_programs_whose_row_is_empty_are_let_by(self):
        for name, text, most, prints, end in samples.ENDING:
            with self.subTest(name):
                self.assertEqual(infer(read(text))[1][0], ())
                self.assertEqual(all_outcomes(text, most), [(prints, end)] * 3)
        for text in (
            "effect o : int -> int; fun x => ask o x",
            "effect o : int -> int; let f = fun x => ask o x in 1",
            "effect o : int -> int; handle 1 { return x => x | o y k => k y }",
        ):
            with self.subTest(text):
                self.assertEqual([end[0] for _, end in all_outcomes(text, 10)], ["value"] * 3)

    def test_an_operation_that_nobody_handles(self):
        for name, text, _, _, operation in samples.UNHANDLED:
            with self.subTest(name):
                self.raises_everywhere(Unhandled, operation, text)

    def test_it_is_refused_even_where_the_ask_is_never_come_to(self):
        effect = "effect o : int -> int; "
        for text in (
            "if false then ask o 1 else 2", "if true then 1 else ask o 2", "(rec f x => f x) 1 + ask o 1",
            "(rec f x => if x < 0 then ask o x else f (x + 1)) 0", "let f = fun x => ask o x in if false then f 1 else 2",
            "handle 1 { return x => if false then ask o x else x | o y k => k y }",
            "handle 1 { return x => x | o y k => ask o (k y) }",
        ):
            self.raises_everywhere(Unhandled, "o", effect + text)

    def test_the_first_operation_in_ascending_order(self):
        effects = "".join(f"effect {name} : int -> int; " for name in ("zz", "b", "a1", "a", "z_", "b2", "aa"))
        for asked, first in (
            (["zz", "b"], "b"), (["b", "a1"], "a1"), (["a1", "a"], "a"), (["zz", "z_"], "z_"), (["b2", "b"], "b"),
            (["zz", "b2", "aa", "a1"], "a1"), (["aa", "zz", "a"], "a"), (["zz"], "zz"), (["aa", "b"], "aa"),
        ):
            for names in (asked, asked[::-1]):
                text = effects + " + ".join(f"ask {name} 1" for name in names)
                self.raises_everywhere(Unhandled, first, text)
        text = effects + "handle ask a 1 + ask zz 2 + ask b 3 { return x => x | a y k => k y }"
        self.raises_everywhere(Unhandled, "b", text)

    def test_what_reading_raises_comes_first(self):
        effect = "effect o : int -> int; "
        self.raises_everywhere(Malformed, len(effect) + 8, effect + "ask o 1 )")
        self.raises_everywhere(Malformed, len(effect) + 6, effect + "ask o 01")
        self.raises_everywhere(Malformed, len(effect) + 5, effect + "ask o")
        self.raises_everywhere(Unbounded, "text", effect + "ask o 1" + " " * 10000)
        self.raises_everywhere(Unbounded, "depth", effect + "ask o " + "(" * 70 + "1" + ")" * 70)

    def test_what_finding_types_raises_comes_first(self):
        effect = "effect o : int -> int; "
        self.raises_everywhere(Twice, "o", effect + effect + "ask o 1")
        self.raises_everywhere(Unknown, "x", effect + "ask o 1 + x")
        self.raises_everywhere(Unknown, "p", effect + "ask o 1 + ask p 2")
        self.raises_everywhere(Mismatched, 2, effect + "print ask o true; 1")
        self.raises_everywhere(
            Twice, "o", effect + "ask o 1 + (handle 1 { return x => x | o y k => k y | o y k => k y })"
        )
        text = effect + "let a = ask o 1 in "
        for n in range(12):
            text += f"let p{n} = ({'p%d' % (n - 1) if n else 'a'}, {'p%d' % (n - 1) if n else 'a'}) in "
        self.raises_everywhere(Unbounded, "types", text + "p11")


def is_shape_of(shape, one):
    """Whether a shape is one of a type."""
    kinds = {"int": int, "bool": bool}
    if shape[0] != one[0]:
        return False
    if shape[0] in kinds:
        return len(shape) == 2 and shape[1].__class__ is kinds[shape[0]]
    if shape[0] == "pair":
        return len(shape) == 3 and is_shape_of(shape[1], one[1]) and is_shape_of(shape[2], one[2])
    return shape in (("fun",), ("unit",))


class FactsTest(unittest.TestCase):
    """WH3."""

    def facts(self, text, most):
        """Check the facts for a program, with each number of steps up to this one."""
        program = read(text)
        types, rows = infer(program)
        code = compile_expression(program[2])
        for steps in range(most + 1):
            with self.subTest(text, steps=steps):
                prints, end = run_plain(program[2], steps)
                self.assertEqual(run_machine(program[2], steps), (prints, end))
                self.assertEqual(run_counted(program[2], steps)[:2], (prints, end))
                self.assertEqual(run_code(code, steps), (prints, end))
                self.assertEqual(run_kept(code, steps)[:2], (prints, end))
                self.assertTrue(all(number.__class__ is int for number in prints))
                self.assertTrue(all(-2**31 <= number < 2**31 for number in prints))
                if end[0] == "unhandled":
                    self.assertIn(end[1], rows[0])
                    self.assertEqual(len(end), 2)
                elif end[0] == "value":
                    self.assertTrue(is_shape_of(end[1], types[0]), (end[1], types[0]))
                    self.assertEqual(len(end), 2)
                else:
                    self.assertEqual(end, STEPS)
                if rows[0] == ():
                    self.assertEqual(all_outcomes(text, steps), [(prints, end)] * 3)
        return prints, end

    def test_the_samples(self):
        for _, text, most, prints, end in samples.ENDING:
            self.assertEqual(self.facts(text, most + 1), (prints, end))
        for _, text, most, prints, operation in samples.UNHANDLED:
            self.assertEqual(self.facts(text, most + 1), (prints, ("unhandled", operation)))
        for _, text, _ in samples.ENDLESS:
            self.assertEqual(self.facts(text, samples.MOST_STEPS)[1], STEPS)

    def test_handlers_that_do_nothing_around_the_samples(self):
        # They change neither the prints nor the end, and take no steps.
        operation = ("no_one", ("int",), ("int",))
        name = ("name", "x")
        once = ("call", ("name", "k"), ("name", "y"))
        for _, text, most, prints, end in samples.ENDING:
            _, operations, expression = read(text)
            clauses = [(), (("no_one", "y", "k", once),)]
            if end[1][0] == "int":
                clauses.append((("no_one", "y", "k", ("call", ("name", "k"), once)),))
            for each in clauses:
                for returned in (name, ("let", "z", name, ("name", "z"))):
                    whole = ("handle", expression, ("x", returned), each)
                    around = show(("program", (*operations, operation), whole))
                    self.assertEqual(self.facts(around, most + 1), (prints, end))

    def test_clauses_that_ask_again_and_resume_at_once(self):
        again = "handle ({}) {{ return x => x | {} y k => k (ask {} y) }}"
        for effects, inner, names, clauses, value in (
            (
                "effect get : unit -> int; effect put : int -> unit; ",
                "let u = ask put (ask get unit * 3) in ask get unit + 1", ("get", "put"),
                "(handle ({}) {{ return x => fun s => (x, s) | get u k => fun s => k s s "
                "| put n k => fun s => k unit n }}) 7", ("pair", ("int", 22), ("int", 21)),
            ),
            (
                "effect flip : unit -> bool; ",
                "let a = ask flip unit in if ask flip unit then (if a then 1 else 10) else (if a then 100 else 1000)",
                ("flip",), "handle ({}) {{ return x => print x; x | flip u k => k true + k false }}", ("int", 1111),
            ),
            (
                "effect stop : int -> unit; ",
                "(rec loop n => let u = if 9 < n then ask stop n else unit in print n; loop (n + n)) 1", ("stop",),
                "handle ({}) {{ return x => 0 | stop n k => n * 100 }}", ("int", 1600),
            ),
            (
                "effect give : int -> unit; ",
                "(rec each n => if 3 < n then 0 else let u = ask give n in each (n + 1)) 1", ("give",),
                "handle ({}) {{ return x => x | give n k => print n; let r = k unit in r + n }}", ("int", 6),
            ),
        ):
            text = effects + clauses.format(inner)
            prints, end = self.facts(text, 60)
            self.assertEqual(end, ("value", value))
            for name in names:
                inner = again.format(inner, name, name)
                self.assertEqual(self.facts(effects + clauses.format(inner), 80), (prints, end))
                inner = "handle ({}) {{ return x => x }}".format(inner)
                self.assertEqual(self.facts(effects + clauses.format(inner), 80), (prints, end))

    def test_a_clause_for_what_is_not_asked_for_does_nothing(self):
        text = "effect o : int -> int; effect p : int -> bool; " + (
            "handle (handle ask o 1 + ask o 2 { return x => x | p y k => print 9; k true + k false }) "
            "{ return x => x | o y k => k (y * 10) + 1 | p y k => 5 }"
        )
        self.assertEqual(self.facts(text, 10), ((), ("value", ("int", 32))))

    def test_random_programs(self):
        chance = random.Random(7)
        ends = {}
        for _ in range(250):
            text = Writer(chance).program()
            end = self.facts(text, 14)[1]
            if end == STEPS:
                end = self.facts_once(text, 300)
            ends[end[0]] = ends.get(end[0], 0) + 1
        # All kinds of ends are among them.
        self.assertGreater(ends["value"], 60)
        self.assertGreater(ends["unhandled"], 20)

    def facts_once(self, text, steps):
        expression = read(text)[2]
        prints, end = run_plain(expression, steps)
        self.assertEqual(run_machine(expression, steps), (prints, end))
        self.assertEqual(run_code(compile_expression(expression), steps), (prints, end))
        return end


class Writer:
    """Writes programs that `infer` accepts, with many handlers inside one another."""

    def __init__(self, chance):
        self.chance = chance

    def program(self):
        self.free = self.chance.random() < 0.3
        effects = "effect o : int -> int; effect p : int -> int; effect flip : unit -> bool; "
        text = self.handle(3, [])
        if not self.free:
            # What the clauses ask for is answered here.
            text = f"handle {text} {{ return x => x | o y k => k (y + 1) | p y k => print y; k 2 | flip u k => k true }}"
        return effects + text

    def handle(self, depth, integers):
        inner = self.integer(depth, integers)
        asked = ["o", "p", "flip"]
        if self.free or depth < 3:
            asked = [name for name in asked if self.chance.random() < 0.6]
        text = f"handle {inner} {{ return x => {self.integer(depth - 2, [*integers, 'x'])}"
        for name in asked:
            mine = [*integers, "y"] if name != "flip" else integers
            argument = "true" if name == "flip" else self.integer(0, mine)
            closed = ["y + 2", "3", "y * y"] if name != "flip" else ["4"]
            text += f" | {name} y k => " + self.chance.choice([
                f"k {argument if name == 'flip' else '(' + argument + ')'}",
                f"print {self.chance.choice(closed)}; k {'false' if name == 'flip' else '(' + argument + ')'}",
                f"let z = {self.integer(depth - 2, mine)} in k {'(z < 3)' if name == 'flip' else 'z'}",
                f"if {self.chance.choice(closed)} < 6 then k {'true' if name == 'flip' else '5'} "
                f"else k {'false' if name == 'flip' else '(' + argument + ')'}",
                "k true + k false" if name == "flip" else "k y + k (y - 1)",
                "let r = k true in print r; r * 2" if name == "flip" else "let r = k y in print r; k r",
                self.integer(depth - 2, mine),
                "(fun f => f 1) (fun n => " + ("k (n < 1))" if name == "flip" else "k n)"),
                f"handle k {'true' if name == 'flip' else 'y'} {{ return x => x + 1 | o y k => k (y + 100) }}",
            ])
        return text + " }"

    def integer(self, depth, integers):
        kind = self.chance.random()
        if depth <= 0 or kind < 0.1:
            return self.chance.choice([*integers, "1", "2", "ask o 3", "(if ask flip unit then 4 else 5)", "ask p 6"])
        if kind < 0.3:
            return f"ask {self.chance.choice('op')} ({self.integer(depth - 1, integers)})"
        if kind < 0.4:
            left, right = [self.integer(depth - 1, integers) for _ in range(2)]
            return f"(if ask flip unit then {left} else {right})"
        if kind < 0.6:
            left, right = [self.integer(depth - 1, integers) for _ in range(2)]
            return f"(({left}) {self.chance.choice('+-*')} ({right}))"
        if kind < 0.7:
            bound = self.integer(depth - 1, integers)
            return f"(let n = {bound} in {self.integer(depth - 1, [*integers, 'n'])})"
        if kind < 0.8:
            given = self.integer(depth - 1, integers)
            body = self.integer(depth - 1, [*integers, "m"])
            return f"((rec f m => if m < 1 then 0 else ({body}) + f (m - 2)) ({given} - 3))"
        return f"({self.handle(depth - 1, integers)})"


if __name__ == "__main__":
    unittest.main()
