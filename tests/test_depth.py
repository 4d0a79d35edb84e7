"""Reading: point RD4 (depth)."""

import unittest

from askedfor.errors import Malformed, Unbounded
from askedfor.reader import read


def sums(many):
    """The text of a sum of so many numbers; so is its depth."""
    return " + ".join(["1"] * many)


def depth_of(tree):
    """The depth of an expression or a type."""
    inner = [part for part in tree[1:] if isinstance(part, tuple)]
    if tree[0] == "handle":
        inner = [tree[1], tree[2][1]] + [clause[3] for clause in tree[3]]
    return 1 + max((depth_of(part) for part in inner), default=0)


# The text before each link of a chain, the text behind each link, and how many links are read
# around the innermost atom, for which an expression (or a prefix) and a prefix are open.
CHAINS = (
    ("(", ")", 29),
    ("not ", "", 58),
    ("fst ", "", 58),
    ("snd ", "", 58),
    ("ask o ", "", 58),
    ("fun x => ", "", 58),
    ("rec h x => ", "", 58),
    ("let x = 1 in ", "", 58),
    ("let x = ", " in 1", 58),
    ("if ", " then 1 else 1", 58),
    ("if 1 then ", " else 1", 58),
    ("if 1 then 1 else ", "", 58),
    ("print 1; ", "", 58),
    ("handle ", " { return x => 1 }", 58),
    ("handle 1 { return x => ", " }", 58),
    ("handle 1 { return x => 1 | o y k => ", " }", 58),
    ("handle 1 { return x => 1 | o y k => 1 | p y k => ", " | q y k => 1 }", 58),
    ("(1, ", ")", 29),
    ("(", ", 1)", 29),
    ("f (", ")", 29),
    ("1 + (", ")", 29),
    ("2 * (", ") - 3", 29),
    ("1 < (", ")", 29),
    ("not (", ")", 19),
    ("ask o not (", ")", 14),
    ("print (", "); 1", 29),
    ("(fun x => ", ")", 19),
)


class DepthCase(unittest.TestCase):
    def check_read(self, text):
        with self.subTest(text[:60]):
            read(text)

    def check_too_deep(self, text):
        with self.subTest(text[:60]):
            with self.assertRaises(Unbounded) as held:
                read(text)
            self.assertEqual(held.exception.name, "depth")

    def check_malformed(self, text, at):
        with self.subTest(text[:60]):
            with self.assertRaises(Malformed) as held:
                read(text)
            self.assertEqual(held.exception.at, at)


class LimitsTest(DepthCase):
    def test_chains(self):
        for before, behind, most in CHAINS:
            self.check_read(before * most + "1" + behind * most)
            self.check_too_deep(before * (most + 1) + "1" + behind * (most + 1))
            self.check_too_deep(before * 100 + "1" + behind * 100)

    def test_what_the_longest_chains_are(self):
        self.assertEqual(read("(" * 29 + "1" + ")" * 29)[2], ("num", 1))
        expected = ("num", 1)
        for _ in range(58):
            expected = ("not", expected)
        self.assertEqual(read("not " * 58 + "1")[2], expected)

    def test_sums_products_and_calls(self):
        for between in (" + ", " - ", " * ", " "):
            longest = between.join(["1"] * 60)
            self.check_read(longest)
            self.assertEqual(depth_of(read(longest)[2]), 60)
            self.check_too_deep(between.join(["1"] * 61))
            self.check_too_deep(between.join(["1"] * 1000))

    def test_chains_of_each_atom(self):
        for atom in ("0", "x", "true", "false", "unit", "(x)"):
            for between in (" + ", " * ", " "):
                self.check_read(between.join([atom] * 60))
                self.check_too_deep(between.join([atom] * 61))

    def test_comparisons(self):
        for sign in ("<", "=="):
            self.check_read(f"{sums(59)} {sign} 1")
            self.check_read(f"1 {sign} {sums(59)}")
            self.check_too_deep(f"{sums(60)} {sign} 1")
            self.check_too_deep(f"1 {sign} {sums(60)}")

    def test_depth_of_each_form(self):
        for before, behind in (
            ("fun x => ", ""),
            ("rec h x => ", ""),
            ("let x = ", " in 1"),
            ("let x = 1 in ", ""),
            ("if ", " then 1 else 1"),
            ("if 1 then ", " else 1"),
            ("if 1 then 1 else ", ""),
            ("print ", "; 1"),
            ("print 1; ", ""),
            ("(", ", 1)"),
            ("(1, ", ")"),
            ("fst (", ")"),
            ("snd (", ")"),
            ("not (", ")"),
            ("ask o (", ")"),
            ("f (", ")"),
            ("(", ") x"),
            ("2 * (", ")"),
            ("2 + (", ")"),
            ("handle ", " { return x => 1 | o y k => 1 }"),
            ("handle 1 { return x => ", " | o y k => 1 }"),
            ("handle 1 { return x => 1 | o y k => ", " | p y k => 1 }"),
            ("handle 1 { return x => 1 | o y k => 1 | p y k => ", " }"),
        ):
            self.check_read(before + sums(59) + behind)
            self.assertEqual(depth_of(read(before + sums(59) + behind)[2]), 60)
            self.check_too_deep(before + sums(60) + behind)

    def test_parentheses_add_no_depth(self):
        self.check_read(f"({sums(60)})")
        self.check_read(f"(({sums(60)}))")
        self.check_too_deep(f"({sums(60)}) + 1")

    def test_depth_and_open_parts_together(self):
        for link, most in (("fun x => ", 58), ("let x = 1 in ", 58), ("print 1; ", 58)):
            self.check_read(link * most + "1 + 1")
            self.check_too_deep(link * most + "1 + 1 + 1")
            self.check_too_deep(link * most + "f (1)")
            self.check_read(link * (most - 1) + "not 1 + 1")
            self.check_too_deep(link * most + "not 1")

    def test_types(self):
        for before, behind, most in (
            ("(", ", int)", 59),
            ("(int, ", ")", 59),
            ("((int, unit), ", ")", 58),
        ):
            for links, check in ((most, self.check_read), (most + 1, self.check_too_deep)):
                deep = before * links + "int" + behind * links
                check(f"effect o : {deep} -> int; 1")
                check(f"effect o : int -> {deep}; 1")
        program = read("effect o : " + "(" * 59 + "int" + ", int)" * 59 + " -> int; 1")
        self.assertEqual(depth_of(program[1][0][1]), 60)

    def test_parts_are_open_only_until_they_end(self):
        deep_type = "(" * 59 + "int" + ", int)" * 59
        self.check_read(f"effect o : {deep_type} -> {deep_type}; " * 5 + "1")
        self.check_read(f"effect o : {deep_type} -> {deep_type}; " + "not " * 58 + "1")
        parentheses = "(" * 28 + "1" + ")" * 28
        for between in (" + ", " - ", " * ", " "):
            self.check_read(between.join([parentheses] * 60))
        self.check_read(f"{parentheses} < {parentheses}")
        handler = " | ".join(f"o y k => {'not ' * 57} y" for _ in range(30))
        self.check_read(f"handle {'not ' * 57} 1 {{ return x => {'not ' * 57} x | {handler} }}")

    def test_wide_texts_are_not_deep(self):
        wide = "1"
        for _ in range(8):
            wide = f"({wide}) * ({wide})"
        self.check_read(wide)
        self.check_read("handle 1 { return x => 1" + " | o y k => 1" * 700 + " }")
        self.check_read("effect o : int -> int; " * 400 + "1")


class FirstErrorTest(DepthCase):
    def test_before_a_token_of_an_open_part_is_read(self):
        for before, _, most in CHAINS:
            too_deep = before * (most + 1)
            for rest in ("", ")", "=", "then", "1 = 2", "x x x }"):
                self.check_too_deep(too_deep + rest)
            text = before * most
            self.check_malformed(text, len(text))
            self.check_malformed(text + "=", len(text))
            self.check_malformed(text + "}", len(text))

    def test_the_sixtieth_part_may_still_be_malformed(self):
        text = "not " * 58
        self.check_malformed(text + "ask", len(text) + 3)
        self.check_malformed(text + "ask 1", len(text) + 4)
        self.check_too_deep(text + "ask o")
        text = "fun x => " * 59
        self.check_malformed(text + "fun", len(text) + 3)
        self.check_malformed(text + "fun =>", len(text) + 4)
        self.check_malformed(text + "fun x x", len(text) + 6)
        self.check_too_deep(text + "fun x =>")
        self.check_too_deep(text + "print")
        self.check_too_deep(text + "handle")
        self.check_malformed(text + "let x in", len(text) + 6)
        self.check_too_deep(text + "let x =")

    def test_types_before_a_token_is_read(self):
        for before in ("effect o : ", "effect o : int -> "):
            text = before + "(" * 59
            self.check_malformed(text, len(text))
            self.check_malformed(text + ")", len(text))
            self.check_malformed(text + "int int", len(text) + 4)
            for rest in ("", ")", "int", "true", "("):
                self.check_too_deep(text + "(" + rest)
            text = before + "(int, " * 59
            self.check_malformed(text + ",", len(text))
            self.check_malformed(text + "int,", len(text) + 3)
            self.check_too_deep(text + "(")
            self.check_too_deep(text + "()")

    def test_with_the_last_token_of_chains(self):
        for sign in ("+", "-"):
            text = f" {sign} ".join(["1"] * 61)
            for rest in ("", " +", " -", " <", " ==", ")", " =", " then", " :", " effect", " fun x"):
                self.check_too_deep(text + rest)
        text = " * ".join(["1"] * 61)
        for rest in ("", " *", " +", " <", ")", " =", " in", " not", " print"):
            self.check_too_deep(text + rest)
        text = " ".join(["1"] * 61)
        for rest in ("", " (", " *", " +", " 1", ")", " =", " in", " not", " ask"):
            self.check_too_deep(text + rest)

    def test_a_chain_that_is_one_shorter(self):
        for between in (" + ", " - ", " * "):
            text = between.join(["1"] * 60)
            self.check_malformed(text + ")", len(text))
            self.check_malformed(text + between, len(text + between))
            self.check_malformed(text + between + ")", len(text + between))
            self.check_malformed(text + between + "(1", len(text + between) + 2)
        text = " ".join(["1"] * 60)
        self.check_malformed(text + " =", len(text) + 1)
        self.check_malformed(text + " (1", len(text) + 3)
        self.check_too_deep(text + " (1)")

    def test_a_sum_is_complete_when_its_last_product_is(self):
        text = sums(61)
        self.check_malformed(text + " *", len(text) + 2)
        self.check_malformed(text + " (", len(text) + 2)
        self.check_too_deep(text + " * 1 )")
        self.check_too_deep(text + " (1) )")

    def test_with_the_last_token_of_pairs_and_handles(self):
        for text, last in (
            (f"({sums(60)}, 1", ")"),
            (f"(1, {sums(60)}", ")"),
            (f"not ({sums(60)}", ")"),
            (f"fst ({sums(60)}", ")"),
            (f"ask o ({sums(60)}", ")"),
            (f"f ({sums(60)}", ")"),
            (f"handle {sums(60)} {{ return x => 1", "}"),
            (f"handle 1 {{ return x => {sums(60)}", "}"),
            (f"handle 1 {{ return x => 1 | o y k => {sums(60)}", "}"),
        ):
            self.check_malformed(text, len(text))
            self.check_malformed(f"{text} =", len(text) + 1)
            self.check_too_deep(text + last)
            self.check_too_deep(f"{text}{last} =")
            self.check_too_deep(f"{text}{last} )")

    def test_with_the_last_token_of_other_forms(self):
        for text, last in (
            (f"let x = {sums(60)} in", " 1"),
            (f"if {sums(60)} then 1 else", " 1"),
            (f"if 1 then {sums(60)} else", " 1"),
            (f"print {sums(60)};", " 1"),
            (f"{sums(60)} <", " 1"),
            (f"1 + 1 < {sums(59)} +", " 1"),
            (f"fun x => {sums(59)} +", " 1"),
            (f"rec h x => {sums(59)} -", " 1"),
            (f"let x = 1 in {sums(59)} +", " 1"),
            (f"if 1 then 1 else {sums(59)} +", " 1"),
            (f"print 1; {sums(59)} +", " 1"),
        ):
            self.check_malformed(text, len(text))
            self.check_malformed(f"{text} )", len(text) + 1)
            self.check_too_deep(text + last)
            self.check_too_deep(f"{text}{last} )")
            self.check_too_deep(f"{text}{last} =")

    def test_a_deep_part_raises_before_the_form_around_it_goes_on(self):
        deep = sums(61)
        for before in ("(", "let x = ", "if ", "if 1 then ", "print ", "handle ", "(1, ", "f ("):
            self.check_too_deep(before + deep)
            self.check_too_deep(f"{before}{deep} =")

    def test_what_does_not_fit_before(self):
        deep = "not " * 100 + "1"
        self.check_malformed(") " + deep, 0)
        self.check_malformed("1 + = " + deep, 4)
        self.check_malformed("let = " + deep, 4)
        self.check_malformed("effect o int; " + deep, 9)
        self.check_malformed("effect o : int -> int " + deep, 22)
        self.check_malformed("1 " + deep, 2)
        self.check_malformed("print true < " + sums(61), 11)

    def test_tokens_come_first(self):
        self.check_malformed("(" * 100 + "?", 100)
        self.check_malformed(sums(61) + " 01", len(sums(61)) + 1)
        with self.assertRaises(Unbounded) as held:
            read("(" * 10001)
        self.assertEqual(held.exception.name, "text")
        self.check_too_deep("(" * 10000)


if __name__ == "__main__":
    unittest.main()
