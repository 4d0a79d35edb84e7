"""Answering at once (AN1)."""

import unittest

from askedfor.answers import answers_at_once, keeps_nothing
from askedfor.reader import read

EFFECTS = "effect o : int -> int; effect p : int -> int; effect c : int -> bool; "


def clause(text, name="y", resumption="k"):
    """The clause for o with this expression."""
    program = read(f"{EFFECTS}handle 1 {{ return x => x | o {name} {resumption} => {text} }}")
    return program[2][3][0]


class ClausesTest(unittest.TestCase):
    def check(self, text, answer, name="y", resumption="k"):
        with self.subTest(text):
            given = clause(text, name, resumption)
            self.assertIs(answers_at_once(given), answer)
            self.assertEqual(given, clause(text, name, resumption))

    def yes(self, *texts):
        for text in texts:
            self.check(text, True)

    def no(self, *texts):
        for text in texts:
            self.check(text, False)

    def test_calls(self):
        self.yes("k y", "k 1", "k (y + 1)", "k (ask o y)", "k (f y)", "k (y y)", "k (fun z => z)", "k (1, 2)")
        self.no("k k", "k (k y)", "k (y + k y)", "f y", "f k", "y k", "y", "k", "1", "k y y", "k y k", "f (k y)")
        self.no("(fun x => x) (k y)", "(k) y z", "(fun x => k x) y", "(rec f x => k x) y")

    def test_the_function_of_the_call_is_the_name_itself(self):
        self.no("(if true then k else k) y", "(let z = 1 in k) y", "(fst (k, 1)) y", "(print 1; k) y")
        self.yes("(k) (y)", "(k y)")

    def test_lets(self):
        self.yes("let z = 1 in k z", "let z = ask o y in k (z + y)", "let y = 1 in k y", "let z = 1 in let w = 2 in k (z + w)")
        self.no("let z = k in k y", "let z = k y in z", "let z = k y in k z", "let z = fun w => k w in k y", "let z = 1 in z")
        self.no("let z = 1 in k (k z)", "let z = 1 in let w = k z in k w", "let z = 1 in let w = 2 in w")

    def test_a_let_that_binds_the_resumption_itself(self):
        self.no("let k = 1 in k y", "let k = fun z => z in k y", "let k = k in k y", "let z = 1 in let k = z in k y")
        self.yes("let z = (let k = 1 in k) in k z")

    def test_choices(self):
        self.yes("if true then k 1 else k 2", "if ask c y then k y else if y < 2 then k 1 else k 2")
        self.no("if true then k 1 else 2", "if true then 1 else k 2", "if true then 1 else 2")
        self.no("if k y then k 1 else k 2", "if y < k y then k 1 else k 2", "if true then k (k 1) else k 2")
        self.no("if true then k 1 else k (k 2)", "if (fun z => k z) 1 then k 1 else k 2")

    def test_prints(self):
        self.yes("print 1; k y", "print y; print ask o y; k (y + 1)", "print (let k = 1 in k); k y")
        self.no("print k y; k y", "print 1; y", "print 1; k (k y)", "print 1; print k 1; k 2", "print y; f (k y)")

    def test_all_of_them_inside_one_another(self):
        self.yes(
            "let z = ask p y in if z < 10 then print z; k (z + 1) else print 0; let w = z in k (ask p w)",
            "print 1; let z = 2 in print z; if z == y then let w = 3 in print w; k w else k 4",
            "if y < 1 then let z = 1 in if z < y then k z else k y else print y; k 3",
        )
        self.no(
            "let z = ask p y in if z < 10 then print z; k (z + 1) else print 0; let w = z in ask p (k w)",
            "print 1; let z = 2 in print z; if z == y then let k = 3 in print k; 5 else k 4",
            "if y < 1 then let z = 1 in if z < y then k z else y else print y; k 3",
            "if y < 1 then let z = 1 in if z < y then k z else k y else print y; let z = k 3 in z",
        )

    def test_the_resumption_hidden_by_an_inner_binder_does_not_occur_free(self):
        self.yes(
            "k ((fun k => k) y)", "k (let k = y in k + 1)", "k ((rec k z => k z) y)", "k ((rec z k => k + 1) y)",
            "k (handle y { return k => k })", "k (handle y { return x => x | o k j => j k })",
            "k (handle y { return x => x | o z k => k (k z) })", "let z = (fun k => k y) in k (z (fun w => w))",
            "if (let k = true in k) then k 1 else k 2", "print (fun k => k) 1; k y",
        )
        self.no(
            "k ((fun z => k z) y)", "k (let k = k in k)", "k (let z = k in y)", "k (handle k y { return k => k })",
            "k (handle y { return x => k })", "k (handle y { return x => x | o z j => k z })", "k ((rec z w => k w) y)",
        )

    def test_other_forms_of_expressions(self):
        self.no(
            "7", "true", "unit", "z", "fun z => k z", "rec k z => k z", "(k y, k y)", "fst k y", "snd k y",
            "k y + 1", "1 + k y", "k y < 2", "k y == k y", "not k y", "ask o (k y)",
            "handle k y { return x => x }", "handle y { return x => k x }", "handle 1 { return x => x | o y j => k y }",
        )

    def test_a_clause_that_does_not_name_the_resumption(self):
        self.no("y", "y + 1", "print y; 0", "let z = y in z", "if true then y else 0", "ask o y", "j y")

    def test_the_name_of_the_resumption_counts(self):
        self.check("j y", True, resumption="j")
        self.check("k y", False, resumption="j")
        self.check("k (j y)", False, resumption="j")
        self.check("j (k y)", True, resumption="j")

    def test_both_names_the_same(self):
        self.check("k 5", True, name="k")
        self.check("print 1; k (2 + 3)", True, name="k")
        self.check("k k", False, name="k")
        self.check("let y = k in k y", False, name="k")

    def test_the_clause_alone_counts(self):
        self.assertIs(answers_at_once(("any", "x", "r", ("call", ("name", "r"), ("name", "x")))), True)
        self.assertIs(answers_at_once(("any", "r", "x", ("call", ("name", "r"), ("name", "x")))), False)


class ExpressionsTest(unittest.TestCase):
    AT_ONCE = "{ return x => x | o y k => print y; k y }"
    LATER = "{ return x => x | o y k => 1 + k y }"

    def check(self, text, answer):
        with self.subTest(text):
            expression = read(EFFECTS + text)[2]
            self.assertIs(keeps_nothing(expression), answer)
            self.assertEqual(expression, read(EFFECTS + text)[2])

    def test_no_handler(self):
        for text in ("1", "ask o 1", "fun k => 1 + k 2", "rec f x => f (f x)", "let k = 1 in (k, k)"):
            self.check(text, True)

    def test_a_handler_without_clauses(self):
        self.check("handle ask o 1 { return x => x }", True)
        self.check("handle handle 1 { return k => k + k } { return k => k }", True)

    def test_one_handler(self):
        self.check(f"handle ask o 1 {self.AT_ONCE}", True)
        self.check(f"handle ask o 1 {self.LATER}", False)
        self.check("handle ask o 1 { return x => x | o y k => k (k y) }", False)
        self.check("handle ask o 1 { return x => x | o y k => y }", False)

    def test_several_clauses(self):
        self.check("handle 1 { return x => x | o y k => k y | p y k => print 1; k y | c y k => k true }", True)
        for late in range(3):
            texts = ["k y", "k y", "k true"]
            texts[late] = "1 + k 1"
            self.check("handle 1 { return x => x | o y k => %s | p y k => %s | c y k => %s }" % tuple(texts), False)

    def test_handlers_anywhere(self):
        for around in (
            "handle {} {{ return x => x | p y k => k y }}", "handle 1 {{ return x => {} | p y k => k y }}",
            "handle 1 {{ return x => x | p y k => k ({}) }}", "fun z => {}", "rec f z => {}", "(fun z => {}) 1",
            "let z = ({}) in z", "let z = 1 in {}", "if ({}) == 1 then 1 else 2", "if true then ({}) else 2",
            "if true then 1 else {}", "({}, 1)", "(1, {})", "fst (1, {})", "1 + ({})", "print ({}); 1", "print 1; {}",
            "not (1 < ({}))", "ask p ({})", "let f = fun z => fun w => {} in 1",
            "handle 1 {{ return x => x | p y k => let z = ({}) in k z }}",
            "handle handle 1 {{ return x => x | p y k => k y }} {{ return x => ({}) | c y k => k true }}",
        ):
            self.check(around.format(f"handle ask o 1 {self.AT_ONCE}"), True)
            self.check(around.format(f"handle ask o 1 {self.LATER}"), False)
            self.check(around.format("1"), True)

    def test_only_one_of_many_does_not_answer_at_once(self):
        for late in range(4):
            ends = [self.AT_ONCE] * 4
            self.check("handle handle handle handle 1 %s %s %s %s" % tuple(ends), True)
            ends[late] = self.LATER
            self.check("handle handle handle handle 1 %s %s %s %s" % tuple(ends), False)

    def test_the_examples(self):
        start = "effect o : int -> int; handle ask o 1 { return x => x | o y k => "
        self.assertIs(keeps_nothing(read(start + "print y; k (y + 1) }")[2]), True)
        self.assertIs(keeps_nothing(read(start + "k (k y) }")[2]), False)


if __name__ == "__main__":
    unittest.main()
