"""Types and rows: point IN5 (size), and point A2 at the limits that the document names."""

import unittest

from askedfor.errors import Mismatched, Refused, Twice, Unbounded, Unknown
from askedfor.infer import MOST_SIZE, infer
from askedfor.reader import read
from askedfor.trees import numbered

INT, BOOL, UNIT = ("int",), ("bool",), ("unit",)
# So many pairs of pairs are bound to names; the first one has the size 3, the last one 511.
NAMES = [f"a{at}" for at in range(8)]
LETS = "let a0 = (1, 1) in " + "".join(
    f"let {name} = ({NAMES[at]}, {NAMES[at]}) in " for at, name in enumerate(NAMES[1:])
)
MARK = 77


def sized(size):
    """The text of a pair, behind LETS, with a type of this size; all sizes are odd."""
    if size == 1:
        return "1"
    # The largest of the pairs that leaves room for something beside it in another pair.
    beside = [2 ** (at + 2) - 1 for at in range(8) if 2 ** (at + 2) - 1 <= size - 2]
    if not beside:
        return "(1, 1)"
    name = NAMES[len(beside) - 1]
    return f"({name}, {sized(size - 1 - beside[-1])})"


def size_of(found):
    """How many types there are in a type."""
    if found[0] == "pair":
        return 1 + size_of(found[1]) + size_of(found[2])
    if found[0] == "fun":
        return 1 + size_of(found[1]) + size_of(found[3])
    return 1


def balanced(texts, between):
    """One text of several, with parentheses so that its depth stays small."""
    if len(texts) == 1:
        return texts[0]
    half = len(texts) // 2
    return f"({balanced(texts[:half], between)}{between}{balanced(texts[half:], between)})"


def number_of_mark(expression):
    """The number of the only expression that is the number 77."""
    return numbered(expression).index(("num", MARK))


class LimitCase(unittest.TestCase):
    def largest(self, text, size):
        """The program is accepted, and its greatest type has this size."""
        with self.subTest(text[-80:], size=size):
            types, _ = infer(read(text))
            self.assertEqual(max(size_of(found) for found in types), size)

    def refused(self, text, error):
        with self.subTest(text[-80:], error=error):
            program = read(text)
            with self.assertRaises(Refused) as held:
                infer(program)
            self.assertEqual(
                (type(held.exception), vars(held.exception)), (type(error), vars(error))
            )

    def too_large(self, text):
        self.refused(text, Unbounded("types"))

    def marked(self, text):
        """The expression that stands as 77 in the text does not fit."""
        self.refused(text, Mismatched(number_of_mark(read(text)[2])))


class SizeTest(LimitCase):
    def test_the_limit(self):
        self.assertEqual(MOST_SIZE, 1000)

    def test_the_texts_used_here(self):
        for size in (1, 3, 5, 7, 9, 101, 255, 511, 513, 997):
            types, _ = infer(read(LETS + sized(size)))
            self.assertEqual(size_of(types[0]), size)

    def test_pairs(self):
        self.largest(LETS + sized(999), 999)
        self.largest(LETS + sized(997), 997)
        self.too_large(LETS + sized(1001))
        self.too_large(LETS + sized(1003))
        self.too_large(LETS + "(a7, a7)")

    def test_functions(self):
        self.largest(LETS + "fun x => " + sized(997), 999)
        self.too_large(LETS + "fun x => " + sized(999))
        self.largest(LETS + f"fun x => if true then x else {sized(499)}", 999)
        self.too_large(LETS + f"fun x => if true then x else {sized(501)}")
        self.largest(LETS + "rec h x => " + sized(997), 999)
        self.too_large(LETS + "rec h x => " + sized(999))

    def test_integers_have_no_size_to_speak_of(self):
        self.largest(LETS + f"fst (1, {sized(997)})", 999)

    def test_types_that_are_not_decided_count_as_one(self):
        self.largest(LETS + f"fun x => fun y => (x, {sized(993)})", 999)
        self.too_large(LETS + f"fun x => fun y => (x, {sized(995)})")

    def test_resumptions(self):
        declared = "effect o : int -> (int, int); "
        self.largest(
            declared + LETS + f"handle 1 {{ return x => {sized(995)} | o y k => k (1, 2) }}", 999
        )
        # The type of the resumption is too large, although that of the whole is not.
        self.too_large(
            declared + LETS + f"handle 1 {{ return x => {sized(997)} | o y k => k (1, 2) }}"
        )
        self.largest(
            declared + LETS + f"handle 1 {{ return x => {sized(997)} | o y k => {sized(997)} }}", 997
        )

    def test_declared_types(self):
        plain = "int"
        for _ in range(8):
            plain = f"({plain}, {plain})"
        # 511, and with another one 1023.
        self.largest(f"effect o : int -> {plain}; ask o 1", 511)
        self.too_large(f"effect o : int -> ({plain}, {plain}); ask o 1")
        self.largest(f"effect o : int -> ({plain}, {plain}); 1", 1)
        self.largest(f"effect o : ({plain}, {plain}) -> int; fun x => 1", 3)
        self.too_large(f"effect o : ({plain}, {plain}) -> int; fun x => ask o x")
        self.too_large(
            f"effect o : ({plain}, {plain}) -> int; handle 1 {{ return x => x | o y k => fst (1, y) }}"
        )

    def test_a_part_that_is_too_large(self):
        self.too_large(LETS + f"fst (1, {sized(999)})")
        self.too_large(LETS + f"let u = (1, {sized(999)}) in 1")
        self.too_large(LETS + f"(fun u => 1) (1, {sized(999)})")

    def test_the_number_of_nested_lets(self):
        lets = LETS + "let b = (a7, 1) in "
        self.largest(lets + "1", 513)
        self.too_large(lets + "let c = (b, a7) in 1")


class LaterTest(LimitCase):
    """Types that are small when their own conditions have been asked for."""

    def test_a_function_that_is_called_later(self):
        text = LETS + "let f = fun x => x in let u = f {} in 1"
        self.largest(text.format(sized(499)), 999)
        self.too_large(text.format(sized(501)))

    def test_what_does_not_fit_further_on_comes_first(self):
        text = LETS + "let f = fun x => x in let u = f {} in not 77"
        self.marked(text.format(sized(499)))
        self.marked(text.format(sized(501)))
        self.refused(
            LETS + f"let f = fun x => x in let u = f {sized(501)} in nowhere", Unknown("nowhere")
        )
        self.refused(
            LETS + f"let f = fun x => x in let u = f {sized(501)} in ask o 1", Unknown("o")
        )
        self.refused(
            "effect o : int -> int; " + LETS + f"let f = fun x => x in let u = f {sized(501)} in "
            "handle 1 { return x => x | o y k => 1 | o y k => 2 }", Twice("o")
        )

    def test_the_condition_that_makes_it_too_large_may_be_that_of_another_expression(self):
        # The function is too large when it is called, but what the call gives is an integer.
        text = LETS + "let f = fun x => 1 in let u = f {} in not 77"
        self.marked(text.format(sized(997)))
        self.marked(text.format(sized(999)))
        text = LETS + "let f = fun x => 1 in f {}"
        self.largest(text.format(sized(997)), 999)
        self.too_large(text.format(sized(999)))

    def test_many_small_conditions(self):
        # Each name has twice the type of the one behind it, which has got its own not before then.
        for many, fits in ((8, True), (9, False)):
            names = "".join(f"let x{at} = (rec h x => h x) unit in " for at in range(many + 1))
            doubled = balanced(
                [f"fst (1, if true then x{at} else (x{at + 1}, x{at + 1}))" for at in range(many)], "+"
            )
            if fits:
                self.largest(f"{names}{doubled} + 1", 513)
                self.largest(f"{names}{doubled} + fst (1, x0)", 513)
            else:
                self.too_large(f"{names}{doubled} + 1")
            self.marked(f"{names}{doubled} + fst 77")


class FirstTest(LimitCase):
    """Which error comes first if a type is too large and something else does not fit."""

    def test_too_large_before(self):
        self.too_large(LETS + f"let u = {sized(1001)} in not 77")
        self.too_large(LETS + f"(fst (1, {sized(999)}), not 77)")
        self.too_large(LETS + f"let u = {sized(1001)} in nowhere")
        self.too_large(LETS + f"if fst (1, {sized(999)}) then 1 else 2")
        self.too_large(LETS + f"not (1, {sized(999)})")

    def test_too_large_further_on(self):
        self.marked(LETS + f"let u = not 77 in {sized(1001)}")
        self.marked(LETS + f"(not 77, {sized(999)})")
        self.refused(LETS + f"(nowhere, {sized(999)})", Unknown("nowhere"))
        self.marked(LETS + f"({sized(997)}, not 77)")

    def test_the_own_conditions_come_before_the_size(self):
        # The function gives a pair so large that its own type is too large; 77 is no such pair.
        text = LETS + f"rec h x => let u = if true then h 1 else {sized(999)} in {{}}"
        self.too_large(text.format("h 1"))
        expressions = numbered(read(text.format("77"))[2])
        body = [at for at, one in enumerate(expressions) if one[:2] == ("let", "u")]
        self.refused(text.format("77"), Mismatched(body[0]))

    def test_a_declaration_comes_before_all(self):
        self.refused(
            f"effect o : int -> int; effect o : int -> int; {LETS}{sized(1001)}", Twice("o")
        )


class LargeTest(LimitCase):
    def check_twice(self, text):
        """The program is accepted, and accepted again, and is not changed; return what it has."""
        self.assertLessEqual(len(text), 10000)
        program = read(text)
        found = infer(program)
        self.assertEqual(infer(program), found)
        self.assertEqual(program, read(text))
        many = len(numbered(program[2]))
        self.assertEqual((len(found[0]), len(found[1])), (many, many))
        return found

    def test_depth_60(self):
        for before, after, found in (
            ("fun x => ", "", None),
            ("rec h x => ", "", None),
            ("let x = 1 in ", "", INT),
            ("let x = ", " in 1", INT),
            ("if true then ", " else 1", INT),
            ("if true then 1 else ", "", INT),
            ("print 1; ", "", INT),
            ("handle ", " { return x => 1 | p y k => k y }", INT),
            ("handle 1 { return x => ", " | p y k => k y }", INT),
            ("handle 1 { return x => 1 | p y k => ", " }", INT),
            ("ask p ", "", INT),
        ):
            links = 58
            text = "effect p : int -> int; " + before * links + "1" + after * links
            types, _ = self.check_twice(text)
            if found is None:
                self.assertEqual(size_of(types[0]), 2 * links + 1)
            else:
                self.assertEqual(types[0], found)
        self.check_twice("+ ".join(["1 "] * 60))
        types, _ = self.check_twice("fun f => f" + " 1" * 58)
        self.assertEqual(size_of(types[0]), 2 * 58 + 3)

    def test_depth_60_of_handlers_with_all_kinds_of_parts(self):
        text = "ask p 1 + ask q x"
        for at in range(50):
            text = f"handle {text} {{ return x => x | p y k => k (ask q y) }}"
        types, rows = self.check_twice(
            f"effect p : int -> int; effect q : int -> int; fun x => {text}"
        )
        self.assertEqual(types[0], ("fun", INT, ("q",), INT))
        self.assertEqual(rows[1], ("q",))
        self.assertEqual(rows[51], ("p", "q"))

    def test_a_long_text_of_functions_calls_asks_and_handlers(self):
        piece = (
            "(fun f => handle f (ask p {0}) {{ return x => x + 1 | p y k => k (k y) "
            "| q y k => ask p y }}) (rec h x => if x < {0} then ask q x else h (x - 1))"
        )
        pieces = [piece.format(at) for at in range(60)]
        text = "effect p : int -> int; effect q : int -> int; " + balanced(pieces, "+")
        self.assertGreater(len(text), 8000)
        types, rows = self.check_twice(text)
        self.assertEqual((types[0], rows[0]), (INT, ("p",)))
        self.assertGreater(len(types), 1500)

    def test_a_long_text_of_calls_of_one_function(self):
        text = "fun f => " + balanced(["f(f 1)"] * 1100, "+")
        types, rows = self.check_twice(f"effect p : int -> int; ({text}) (fun x => ask p x)")
        self.assertEqual((types[0], rows[0]), (INT, ("p",)))
        self.assertEqual(types[1], ("fun", ("fun", INT, ("p",), INT), ("p",), INT))

    def test_a_long_text_with_one_large_type(self):
        table = balanced(["fun x=>x"] * 200, ",")
        text = f"let t = {table} in " + balanced(["(fun x=>1) t"] * 500, "+")
        types, _ = self.check_twice(text)
        self.assertEqual(max(size_of(found) for found in types), 801)

    def test_many_operations(self):
        many = 150
        declared = "".join(f"effect o{at}:int->int;" for at in range(many))
        asked = balanced([f"ask o{at} 1" for at in range(many)], "+")
        clauses = "".join(f"|o{at} y k=>k y" for at in range(many))
        types, rows = self.check_twice(
            f"{declared}handle {asked} {{return x => fun y => ask o7 x{clauses}}}"
        )
        self.assertEqual(types[0], ("fun", UNIT, ("o7",), INT))
        self.assertEqual(rows[0], ())
        self.assertEqual(rows[1], tuple(sorted(f"o{at}" for at in range(many))))

    def test_a_type_that_is_nested_392_deep(self):
        text = "let t0 = 1 in "
        for at in range(28):
            text += f"let t{at + 1} = " + "(1, " * 14 + f"t{at}" + ")" * 14 + " in "
        types, _ = self.check_twice(text + "t28")
        found = types[0]
        for _ in range(392):
            self.assertEqual(found[:2], ("pair", INT))
            found = found[2]
        self.assertEqual(found, INT)

    def test_a_type_that_contains_itself_after_a_long_way(self):
        many = 32
        names = "".join(f"let x{at} = (rec h x => h x) unit in " for at in range(many))
        links = balanced(
            [f"fst (1, if true then x{at} else (x{at + 1}, 1))" for at in range(many - 1)], "+"
        )
        text = f"{names}{links} + fst (1, if true then x{many - 1} else (x{{}}, 77))"
        for back in (0, 20, many - 2, many - 1):
            program = read(text.format(back))
            number = numbered(program[2]).index(("pair", ("name", f"x{back}"), ("num", MARK)))
            self.refused(text.format(back), Mismatched(number))
        self.largest(text.format(0).replace("(x0, 77)", "(1, 77)"), 2 * many + 3)


class SharedTest(LimitCase):
    """Types far too large to be gone through, unless what is the same in them is seen only once."""

    def setUp(self):
        many = 30
        self.names = "".join(
            f"let x{at} = (rec h x => h x) unit in " for at in range(many + 1)
        )
        self.doubled = balanced(
            [f"fst (1, if true then x{at} else (x{at + 1}, x{at + 1}))" for at in range(many)], "+"
        )

    def test_the_size_at_the_end(self):
        self.too_large(f"{self.names}{self.doubled}")

    def test_what_does_not_fit_comes_first(self):
        self.marked(f"{self.names}{self.doubled} + fst 77")

    def test_the_size_of_an_expression(self):
        self.too_large(f"{self.names}{self.doubled} + fst (fst (1, x0), not 77)")

    def test_what_fits_a_large_type(self):
        text = (
            f"effect p : int -> int; let y = (rec h x => h x) unit in {self.names}"
            f"handle 1 {{{{ return x => x0 | p a k => let u = {self.doubled} in {{}} }}}}"
        )
        self.too_large(text.format("y"))
        self.too_large(text.format("(y, y)"))
        for last in ("77", "(77, y)", "(x30, y)", "fun x => y"):
            expressions = numbered(read(text.format(last))[2])
            clause = [at for at, one in enumerate(expressions) if one[:2] == ("let", "u")]
            self.refused(text.format(last), Mismatched(clause[0]))


if __name__ == "__main__":
    unittest.main()
