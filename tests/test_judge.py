"""Judging typings (JU1)."""

import os
import sys
import unittest

sys.path.insert(0, os.path.dirname(os.path.abspath(__file__)))

import samples
from askedfor.infer import infer
from askedfor.judge import is_typing
from askedfor.reader import read
from askedfor.trees import numbered

INT, BOOL, UNIT = ("int",), ("bool",), ("unit",)
PAIR = ("pair", INT, BOOL)
FUN = ("fun", INT, (), INT)
EFFECTS = "effect o : int -> bool; effect p : unit -> int; "


def fun(given, row, result):
    return ("fun", given, row, result)


def other_types(one):
    """Other types than this one, and this one with each type inside of it replaced by others."""
    found = [other for other in (INT, BOOL, UNIT, PAIR, FUN) if other != one]
    for at in range(1, len(one)):
        if at == 2 and one[0] == "fun":
            continue
        found += [one[:at] + (other,) + one[at + 1:] for other in other_types(one[at])]
    return found


def more_of(one, name):
    """The type with an operation in each row."""
    if one[0] == "fun":
        row = tuple(sorted({*one[2], name}))
        return fun(more_of(one[1], name), row, more_of(one[3], name))
    return (one[0], *[more_of(part, name) for part in one[1:]])


class JudgeTest(unittest.TestCase):
    def judge(self, text, types, rows, answer):
        program = read(EFFECTS + text)
        self.assertEqual(len(numbered(program[2])), len(types))
        self.assertEqual(len(types), len(rows))
        before = (list(types), list(rows))
        self.assertIs(is_typing(program, types, rows), answer)
        self.assertEqual((types, rows), before)

    def right(self, text, types, rows=None):
        self.judge(text, types, rows or [()] * len(types), True)

    def wrong(self, text, types, rows=None):
        self.judge(text, types, rows or [()] * len(types), False)

    def only(self, text, types, rows=None):
        """The typing is right, and wrong with any other type anywhere."""
        self.right(text, types, rows)
        for number, one in enumerate(types):
            for other in other_types(one):
                with self.subTest(text, number=number, other=other):
                    self.wrong(text, types[:number] + [other] + types[number + 1:], rows)

    def row(self, text, types, rows):
        """The typing is right, also with more in a row, and wrong with less in a row."""
        self.right(text, types, rows)
        for number, row in enumerate(rows):
            with self.subTest(text, number=number):
                more = tuple(sorted({*row, "z"}))
                if number == 0:
                    self.right(text, types, [more, *rows[1:]])
                for name in row:
                    less = tuple(each for each in row if each != name)
                    self.wrong(text, types, rows[:number] + [less] + rows[number + 1:])


class TypesTest(JudgeTest):
    """A right typing for each rule, and that no type in it can be another one."""

    def test_literals(self):
        self.only("3", [INT])
        self.only("true", [BOOL])
        self.only("unit", [UNIT])

    def test_functions(self):
        self.only("fun x => x + 1", [fun(INT, (), INT), INT, INT, INT])
        self.only("fun x => not x", [fun(BOOL, (), BOOL), BOOL, BOOL])
        self.only(
            "fun f => fun x => f (x + 1) == 2",
            [
                fun(FUN, (), fun(INT, (), BOOL)), fun(INT, (), BOOL), BOOL,
                INT, FUN, INT, INT, INT, INT,
            ],
        )

    def test_a_name_that_nothing_decides_has_any_type_but_everywhere_the_same(self):
        for one in (INT, UNIT, PAIR, FUN, fun(PAIR, ("o",), FUN)):
            self.right("fun x => x", [fun(one, (), one), one])
            for other in other_types(one):
                with self.subTest(one=one, other=other):
                    self.wrong("fun x => x", [fun(other, (), one), one])
                    self.wrong("fun x => x", [fun(one, (), other), one])
                    self.wrong("fun x => x", [fun(one, (), one), other])
                    self.wrong("fun x => x", [fun(other, (), other), one])
                    self.wrong("fun x => x", [fun(one, (), other), other])
            self.right("fun x => 1", [fun(one, (), INT), INT])

    def test_the_rows_in_a_type_belong_to_it(self):
        for one, other in (
            (fun(INT, (), INT), fun(INT, ("o",), INT)),
            (("pair", INT, fun(INT, ("o",), INT)), ("pair", INT, fun(INT, ("o", "p"), INT))),
            (fun(INT, (), fun(INT, ("p",), INT)), fun(INT, (), fun(INT, ("o",), INT))),
            (fun(fun(INT, (), INT), (), INT), fun(fun(INT, ("x",), INT), (), INT)),
        ):
            for wide, narrow in ((one, other), (other, one)):
                with self.subTest(wide=wide, narrow=narrow):
                    self.right("fun x => x", [fun(wide, (), wide), wide])
                    self.wrong("fun x => x", [fun(narrow, (), wide), wide])
                    self.wrong("fun x => x", [fun(wide, (), narrow), wide])
                    self.wrong("fun x => x", [fun(wide, (), wide), narrow])

    def test_functions_that_are_called_in_themselves(self):
        self.only(
            "rec f x => 1 + f (not x)",
            [fun(BOOL, (), INT), INT, INT, INT, fun(BOOL, (), INT), BOOL, BOOL],
        )

    def test_calls(self):
        self.only("(fun x => x < 1) 2", [BOOL, fun(INT, (), BOOL), BOOL, INT, INT, INT])

    def test_lets(self):
        self.only("let x = 1 in x < x", [BOOL, INT, BOOL, INT, INT])
        self.only("let x = true in let y = 1 in x", [BOOL, BOOL, BOOL, INT, BOOL])

    def test_choices(self):
        self.only("if true then 1 else 2", [INT, BOOL, INT, INT])
        self.only("if 1 < 2 then unit else unit", [UNIT, BOOL, INT, INT, UNIT, UNIT])

    def test_pairs(self):
        self.only("(1, true)", [PAIR, INT, BOOL])
        self.only("(1, (2, unit))", [("pair", INT, ("pair", INT, UNIT)), INT, ("pair", INT, UNIT), INT, UNIT])

    def test_halves(self):
        self.only("fst (1, true)", [INT, PAIR, INT, BOOL])
        self.only("snd (1, true)", [BOOL, PAIR, INT, BOOL])
        self.wrong("fst (1, true)", [BOOL, PAIR, INT, BOOL])
        self.wrong("snd (1, true)", [INT, PAIR, INT, BOOL])

    def test_operators(self):
        for sign in "+-*":
            self.only(f"1 {sign} 2", [INT, INT, INT])
        for sign in ("<", "=="):
            self.only(f"1 {sign} 2", [BOOL, INT, INT])

    def test_equality_is_for_integers_only(self):
        self.wrong("true == false", [BOOL, BOOL, BOOL])
        self.wrong("unit == unit", [BOOL, UNIT, UNIT])

    def test_not(self):
        self.only("not true", [BOOL, BOOL])
        self.wrong("not 1", [BOOL, INT])

    def test_prints(self):
        self.only("print 1; true", [BOOL, INT, BOOL])
        self.wrong("print true; 1", [INT, BOOL, INT])

    def test_asks(self):
        self.only("ask o 1", [BOOL, INT], [("o",), ()])
        self.only("ask p unit", [INT, UNIT], [("p",), ()])

    def test_handlers(self):
        self.only("handle 1 { return x => x < 2 }", [BOOL, INT, BOOL, INT, INT])
        whole = fun(BOOL, (), UNIT)
        self.only(
            "handle ask o 1 { return x => if x then unit else unit | o y k => k (y < 1) }",
            [UNIT, BOOL, INT, UNIT, BOOL, UNIT, UNIT, UNIT, whole, BOOL, INT, INT],
            [(), ("o",), (), (), (), (), (), (), (), (), (), ()],
        )

    def test_a_clause_has_the_type_of_the_whole(self):
        self.right("handle ask o 1 { return x => 1 | o y k => y }", [INT, BOOL, INT, INT, INT], [(), ("o",), (), (), ()])
        self.wrong("handle ask o 1 { return x => 1 | o y k => true }", [INT, BOOL, INT, INT, BOOL],
                   [(), ("o",), (), (), ()])
        self.wrong("handle ask o 1 { return x => true | o y k => y }", [INT, BOOL, INT, BOOL, INT],
                   [(), ("o",), (), (), ()])
        self.wrong("handle ask o 1 { return x => true | o y k => y }", [BOOL, BOOL, INT, BOOL, INT],
                   [(), ("o",), (), (), ()])

    def judge_names(self, body, whole, names, answer):
        """Judge an expression whose parts are names with these types, bound by functions around it."""
        row = ("o",) if "ask" in body else ()
        program = read(f"{EFFECTS}fun x => fun y => fun z => {body}")
        inner = fun(names["z"], row, whole)
        middle = fun(names["y"], (), inner)
        types = [fun(names["x"], (), middle), middle, inner, whole]
        types += [names[one[1]] for one in numbered(program[2])[4:]]
        rows = [(), (), (), row] + [()] * (len(types) - 4)
        with self.subTest(body, whole=whole, names=names):
            self.assertIs(is_typing(program, types, rows), answer)

    def test_parts_that_could_have_other_types(self):
        for body, whole, names, wrong_names in (
            ("if x then y else z", PAIR, {"x": BOOL, "y": PAIR, "z": PAIR}, "xyz"),
            ("x y", UNIT, {"x": fun(PAIR, (), UNIT), "y": PAIR}, "xy"),
            ("(x, y)", ("pair", INT, FUN), {"x": INT, "y": FUN}, "xy"),
            ("fst x", FUN, {"x": ("pair", FUN, UNIT)}, "x"),
            ("snd x", FUN, {"x": ("pair", UNIT, FUN)}, "x"),
            ("x + y", INT, {"x": INT, "y": INT}, "xy"),
            ("x < y", BOOL, {"x": INT, "y": INT}, "xy"),
            ("x == y", BOOL, {"x": INT, "y": INT}, "xy"),
            ("not x", BOOL, {"x": BOOL}, "x"),
            ("print x; y", FUN, {"x": INT, "y": FUN}, "xy"),
            ("let v = x in y", FUN, {"x": INT, "y": FUN}, "y"),
            ("ask o x", BOOL, {"x": INT}, "x"),
            ("handle x { return v => y | o v k => z }", FUN, {"x": INT, "y": FUN, "z": FUN}, "yz"),
        ):
            right = {"x": UNIT, "y": UNIT, "z": UNIT, **names}
            self.judge_names(body, whole, right, True)
            for other in (INT, BOOL, PAIR, fun(INT, ("o",), INT), fun(PAIR, (), PAIR)):
                if other != whole:
                    self.judge_names(body, other, right, False)
                for name in wrong_names:
                    if other != right[name]:
                        self.judge_names(body, whole, {**right, name: other}, False)
        # What is bound and not used, and the other half of a pair, may be anything.
        for other in (INT, BOOL, PAIR, FUN):
            names = {"x": other, "y": FUN, "z": FUN}
            self.judge_names("let v = x in y", FUN, names, True)
            self.judge_names("handle x { return v => y | o v k => z }", FUN, names, True)
            self.judge_names("fst x", INT, {**names, "x": ("pair", INT, other)}, True)
            self.judge_names("snd x", INT, {**names, "x": ("pair", other, INT)}, True)

    def test_the_argument_of_a_clause_has_the_type_of_the_operation(self):
        self.right("handle 1 { return x => 1 | o y k => y }", [INT, INT, INT, INT])
        self.wrong("handle 1 { return x => true | o y k => y }", [BOOL, INT, BOOL, BOOL])
        self.right("handle 1 { return x => unit | p y k => y }", [UNIT, INT, UNIT, UNIT])
        self.wrong("handle 1 { return x => 1 | p y k => y }", [INT, INT, INT, INT])

    def test_the_type_of_a_resumption(self):
        # What the clause gives is a function that only names k in its body.
        text = "handle 1 { return x => fun s => x | o y k => fun s => snd (k, 1) }"

        def types(whole, resumption):
            return [
                whole, INT, whole, INT, whole, INT, ("pair", resumption, INT), resumption, INT,
            ]

        for row, inner in (((), ()), (("o",), ()), (("o", "p"), ("p",)), ((), ("p",))):
            whole = fun(UNIT, inner, INT)
            rows = [row] + [()] * 8
            with self.subTest(row=row, inner=inner):
                self.right(text, types(whole, fun(BOOL, row, whole)), rows)
                for wrong in (
                    fun(INT, row, whole), fun(BOOL, row, INT), fun(BOOL, ("q", *row), whole),
                    fun(BOOL, row, fun(UNIT, ("a", *inner), INT)), fun(BOOL, row, fun(INT, inner, INT)), INT,
                ):
                    self.wrong(text, types(whole, wrong), rows)
                # The row of the resumption is exactly the row of the whole.
                self.wrong(text, types(whole, fun(BOOL, row, whole)), [("a", *row)] + [()] * 8)
                if row:
                    self.wrong(text, types(whole, fun(BOOL, (), whole)), rows)


class RowsTest(JudgeTest):
    """Rows that contain what the rules ask for, more, and less."""

    def test_an_ask(self):
        self.row("ask o 1", [BOOL, INT], [("o",), ()])
        self.right("ask o 1", [BOOL, INT], [("a", "o", "z"), ("a", "o")])
        self.wrong("ask o 1", [BOOL, INT], [("p",), ()])
        # The row of the part is in the row of the whole.
        self.wrong("ask o 1", [BOOL, INT], [("o",), ("p",)])
        self.right("ask o 1", [BOOL, INT], [("o", "p"), ("p",)])

    def test_literals_and_names(self):
        self.right("1", [INT], [("o", "p")])
        self.right("fun x => x", [fun(INT, ("o",), INT), INT], [(), ("o",)])
        self.wrong("fun x => x", [fun(INT, (), INT), INT], [(), ("o",)])

    def test_each_part_of_each_form(self):
        for text, types, part in (
            ("if ask o 1 then 2 else 3", [INT, BOOL, INT, INT, INT], 1),
            ("if true then ask p unit else 3", [INT, BOOL, INT, UNIT, INT], 2),
            ("if true then 3 else ask p unit", [INT, BOOL, INT, INT, UNIT], 3),
            ("let x = ask p unit in 1", [INT, INT, UNIT, INT], 1),
            ("let x = 1 in ask p unit", [INT, INT, INT, UNIT], 2),
            ("(ask p unit, true)", [PAIR, INT, UNIT, BOOL], 1),
            ("(1, ask o 1)", [PAIR, INT, BOOL, INT], 2),
            ("fst (1, ask o 1)", [INT, PAIR, INT, BOOL, INT], 1),
            ("snd (1, ask o 1)", [BOOL, PAIR, INT, BOOL, INT], 1),
            ("ask p unit + 1", [INT, INT, UNIT, INT], 1),
            ("1 < ask p unit", [BOOL, INT, INT, UNIT], 2),
            ("not ask o 1", [BOOL, BOOL, INT], 1),
            ("print ask p unit; 1", [INT, INT, UNIT, INT], 1),
            ("print 1; ask p unit", [INT, INT, INT, UNIT], 2),
            ("ask o (ask p unit)", [BOOL, INT, UNIT], 1),
            ("(fun x => x) (ask p unit)", [INT, FUN, INT, INT, UNIT], 3),
            ("handle ask p unit { return x => 1 }", [INT, INT, UNIT, INT], 1),
            ("handle 1 { return x => ask p unit }", [INT, INT, INT, UNIT], 2),
            ("handle 1 { return x => 1 | p u k => ask p unit }", [INT, INT, INT, INT, UNIT], 3),
        ):
            expression = read(EFFECTS + text)[2]
            asked = [one[1] for one in numbered(expression) if one[0] == "ask"]
            with self.subTest(text):
                rows = [()] * len(types)
                for number, one in enumerate(numbered(expression)):
                    if one[0] == "ask":
                        rows[number] = (one[1],)
                if text.startswith("fst") or text.startswith("snd"):
                    rows[part] = ("o",)
                rows[0] = tuple(sorted(asked))
                self.row(text, types, rows)
                for number in range(len(types)):
                    if number == part:
                        # More in this part is more in the whole.
                        more = tuple(sorted({*rows[part], "z"}))
                        self.wrong(text, types, rows[:part] + [more] + rows[part + 1:])
                        self.right(text, types, [tuple(sorted({*rows[0], "z"})), *rows[1:part], more, *rows[part + 1:]])

    def test_the_row_of_a_called_function(self):
        text = "(fun x => ask o x) 1"

        def types(row):
            return [BOOL, fun(INT, row, BOOL), BOOL, INT, INT]

        self.row(text, types(("o",)), [("o",), (), ("o",), (), ()])
        self.wrong(text, types(()), [("o",), (), ("o",), (), ()])
        self.wrong(text, types(("o", "z")), [("o",), (), ("o",), (), ()])
        self.right(text, types(("o", "z")), [("o", "z"), (), ("o",), (), ()])
        # What an expression that is called asks for itself is in the row, too.
        self.wrong("(let f = ask p unit in fun x => x) 1", [INT, FUN, INT, UNIT, FUN, INT, INT],
                   [(), ("p",), ("p",), (), (), (), ()])
        self.right("(let f = ask p unit in fun x => x) 1", [INT, FUN, INT, UNIT, FUN, INT, INT],
                   [("p",), ("p",), ("p",), (), (), (), ()])

    def test_the_row_in_the_type_of_a_function(self):
        text = "fun x => ask o x"
        for row, right in (((), False), (("o",), True), (("o", "p"), True), (("a", "o"), True), (("p",), False)):
            with self.subTest(row=row):
                self.judge(text, [fun(INT, row, BOOL), BOOL, INT], [(), ("o",), ()], right)
                # The row of the function itself need not hold anything, but it may.
                self.judge(text, [fun(INT, row, BOOL), BOOL, INT], [("o",), ("o",), ()], right)
                self.judge(text, [fun(INT, row, BOOL), BOOL, INT], [("q", "z"), ("o",), ()], right)

    def test_the_row_in_the_type_of_a_rec(self):
        text = "rec f x => f (ask p unit)"

        def types(row):
            return [fun(INT, row, UNIT), UNIT, fun(INT, row, UNIT), INT, UNIT]

        self.right(text, types(("p",)), [(), ("p",), (), ("p",), ()])
        self.right(text, types(("p", "q")), [(), ("p", "q"), (), ("p",), ()])
        # The call of f brings the whole row.
        self.wrong(text, types(("p", "q")), [(), ("p",), (), ("p",), ()])
        self.wrong(text, types(()), [(), ("p",), (), ("p",), ()])
        self.wrong(text, types(()), [("p",), ("p",), (), ("p",), ()])
        self.wrong(text, types(("p",)), [(), (), (), ("p",), ()])
        self.wrong(text, types(("p",)), [(), ("p",), (), (), ()])

    def test_the_operations_of_the_clauses_do_not_leave_a_handler(self):
        text = "handle (ask o 1, ask p unit) { return x => unit | o y k => unit }"
        types = [UNIT, ("pair", BOOL, INT), BOOL, INT, INT, UNIT, UNIT, UNIT]
        asked = [("o", "p"), ("o",), (), ("p",), (), (), ()]
        self.right(text, types, [("p",), *asked])
        self.right(text, types, [("o", "p"), *asked])
        self.wrong(text, types, [(), *asked])
        self.wrong(text, types, [("o",), *asked])
        self.right(text, types, [("p", "z"), ("o", "p", "z"), *asked[1:]])
        self.wrong(text, types, [("p",), ("o", "p", "z"), *asked[1:]])

    def test_what_the_clauses_of_a_handler_ask_for_leaves_it(self):
        text = "handle 1 { return x => ask o 1 | o y k => ask o y }"
        types = [BOOL, INT, BOOL, INT, BOOL, INT]
        self.right(text, types, [("o",), (), ("o",), (), ("o",), ()])
        self.wrong(text, types, [(), (), ("o",), (), ("o",), ()])
        for text in ("handle 1 { return x => ask o 1 | o y k => true }", "handle 1 { return x => true | o y k => ask o y }"):
            with self.subTest(text):
                rows = [("o",) if one[0] == "ask" else () for one in numbered(read(EFFECTS + text)[2])]
                types = [BOOL, INT] + [INT if one[0] in ("num", "name") else BOOL
                                       for one in numbered(read(EFFECTS + text)[2])][2:]
                self.right(text, types, [("o",), *rows[1:]])
                self.wrong(text, types, [(), *rows[1:]])

    def test_several_clauses(self):
        text = "handle ask o (ask p unit) { return x => 1 | o y k => y | p u k => 2 }"
        types = [INT, BOOL, INT, UNIT, INT, INT, INT]
        self.right(text, types, [(), ("o", "p"), ("p",), (), (), (), ()])
        self.wrong(text, types, [(), ("o", "p", "q"), ("p",), (), (), (), ()])
        self.right(text, types, [("q",), ("o", "p", "q"), ("p",), (), (), (), ()])
        self.wrong(text, types, [(), ("o", "p"), ("p",), (), (), (), ("p",)])
        self.wrong(text, types, [(), ("o", "p"), ("p",), (), (), ("o",), ()])
        self.wrong(text, types, [(), ("o", "p"), ("p",), (), ("o",), (), ()])

    def test_a_resumption_brings_the_row_of_the_whole(self):
        text = "handle ask o 1 { return x => x | o y k => k true }"
        types = [BOOL, BOOL, INT, BOOL, BOOL, fun(BOOL, (), BOOL), BOOL]
        self.right(text, types, [(), ("o",), (), (), (), (), ()])
        with_z = types[:5] + [fun(BOOL, ("z",), BOOL), BOOL]
        self.wrong(text, with_z, [(), ("o",), (), (), (), (), ()])
        self.wrong(text, with_z, [("z",), ("o",), (), (), (), (), ()])
        self.right(text, with_z, [("z",), ("o",), (), (), ("z",), (), ()])
        self.wrong(text, types, [("z",), ("o",), (), (), (), (), ()])

    def test_names_that_are_no_operations(self):
        self.right("ask o 1", [BOOL, INT], [("a", "b", "o", "zz"), ("a", "b")])
        self.right("fun x => ask o x", [fun(INT, ("o", "other"), BOOL), BOOL, INT], [("no",), ("o", "other"), ("other",)])

    def test_rows_with_many_names(self):
        many = tuple(sorted(f"name_{n}" for n in range(20000)))
        self.right("1 + 2", [INT, INT, INT], [many, many, many])
        self.wrong("1 + 2", [INT, INT, INT], [many[1:], many, ()])
        self.wrong("1 + 2", [INT, INT, INT], [many[:-1], (), many])


class NamesTest(JudgeTest):
    def test_names_that_are_hidden(self):
        self.only("let x = 1 in let x = x < 2 in not x", [BOOL, INT, BOOL, BOOL, INT, INT, BOOL, BOOL])
        self.only(
            "fun x => let y = x + 1 in fun x => if x then y else 2",
            [fun(INT, (), fun(BOOL, (), INT)), fun(BOOL, (), INT), INT, INT, INT, fun(BOOL, (), INT), INT, BOOL, INT, INT],
        )

    def test_a_name_is_bound_in_its_part_only(self):
        self.wrong("(let x = 1 in x) + x", [INT, INT, INT, INT, INT])
        self.wrong("let x = x in 1", [INT, INT, INT])
        self.wrong("(fun x => x + 1) x", [INT, FUN, INT, INT, INT, INT])
        self.wrong("handle x { return x => 1 }", [INT, INT, INT])
        self.wrong("handle 1 { return x => 1 | o y k => x + y }", [INT, INT, INT, INT, INT, INT])
        self.wrong("handle 1 { return x => y | o y k => 1 }", [INT, INT, INT, INT])
        self.wrong("handle 1 { return x => 1 | o y k => 1 | p z j => y }", [INT, INT, INT, INT, INT])

    def test_a_name_that_is_bound_further_out_again(self):
        self.right("let x = 1 in (let x = true in 2) + x", [INT, INT, INT, INT, BOOL, INT, INT])
        self.wrong("let x = 1 in (let x = true in 2) + x", [INT, INT, INT, INT, BOOL, INT, BOOL])

    def test_names_that_are_not_bound(self):
        self.wrong("x", [INT])
        self.wrong("fun y => x", [FUN, INT])
        self.wrong("1 + x", [INT, INT, INT])

    def test_a_rec_with_the_same_name_twice(self):
        self.only("rec f f => not f", [fun(BOOL, (), BOOL), BOOL, BOOL])
        self.right("rec f f => f", [FUN, INT])
        self.wrong("rec f f => f", [fun(INT, (), FUN), FUN])

    def test_a_clause_with_the_same_name_twice(self):
        # k is the resumption, not the integer.
        text = "handle 1 { return x => 2 | o k k => k true }"
        self.right(text, [INT, INT, INT, INT, fun(BOOL, (), INT), BOOL])
        self.wrong("handle 1 { return x => 2 | o k k => k }", [INT, INT, INT, INT])

    def test_a_clause_hides_names(self):
        self.right("let y = true in handle 1 { return y => y | o y k => y + 1 }",
                   [INT, BOOL, INT, INT, INT, INT, INT, INT])
        self.right("let k = true in handle 1 { return y => y | o y k => k true }",
                   [INT, BOOL, INT, INT, INT, INT, fun(BOOL, (), INT), BOOL])

    def test_operations_that_are_not_declared(self):
        self.wrong("ask q 1", [BOOL, INT], [("q",), ()])
        self.wrong("ask q unit", [INT, UNIT], [("q",), ()])
        self.wrong("handle 1 { return x => 2 | q y k => 3 }", [INT, INT, INT, INT])
        self.wrong("handle 1 { return x => 2 | o y k => 3 | q y k => 3 }", [INT, INT, INT, INT, INT])
        self.wrong("handle ask q 1 { return x => x | q y k => k true }",
                   [BOOL, BOOL, INT, BOOL, BOOL, fun(BOOL, (), BOOL), BOOL], [(), ("q",), (), (), (), (), ()])
        self.assertIs(is_typing(("program", (), ("ask", "o", ("num", 1))), [INT, INT], [("o",), ()]), False)


class SizesTest(JudgeTest):
    def same_in_two_copies(self, make, steps):
        one, other, wrong = INT, INT, BOOL
        for _ in range(steps):
            one, other, wrong = make(one), make(other), make(wrong)
        self.right("fun x => x", [fun(one, (), other), other])
        self.wrong("fun x => x", [fun(one, (), wrong), one])
        self.wrong("fun x => x", [fun(one, (), other), wrong])

    def test_types_that_are_larger_than_what_infer_takes(self):
        self.same_in_two_copies(lambda one: ("pair", one, one), 12)
        self.same_in_two_copies(lambda one: fun(one, ("o",), one), 12)

    def test_types_that_are_very_deep(self):
        self.same_in_two_copies(lambda one: ("pair", UNIT, one), 30000)
        self.same_in_two_copies(lambda one: ("pair", one, BOOL), 30000)
        self.same_in_two_copies(lambda one: fun(one, (), UNIT), 30000)
        self.same_in_two_copies(lambda one: fun(UNIT, ("o",), one), 30000)

    def test_types_that_share_what_is_inside(self):
        one = INT
        for _ in range(60):
            one = ("pair", one, one)
        self.right("fun x => (x, x)", [fun(one, (), ("pair", one, one)), ("pair", one, one), one, one])
        self.wrong("fun x => (x, x)", [fun(one, (), ("pair", one, one)), ("pair", one, one), one, one[1]])
        self.wrong("fun x => (x, x)", [fun(one, (), ("pair", one, BOOL)), ("pair", one, one), one, one])
        # They differ only where one comes last that looks at one after the other, from either side.
        left, right, inner = BOOL, BOOL, INT
        for _ in range(60):
            left, right, inner = ("pair", left, inner), ("pair", inner, right), ("pair", inner, inner)
        for other in (left, right):
            self.wrong("fun x => x", [fun(inner, (), other), other])
            self.wrong("fun x => x", [fun(other, (), inner), other])
            self.right("fun x => x", [fun(other, (), other), other])


class InferredTest(unittest.TestCase):
    """What `infer` returns is right."""

    TEXTS = [sample[1] for sample in samples.ENDING + samples.UNHANDLED + samples.ENDLESS]

    def test_what_infer_returns_is_right(self):
        for text in self.TEXTS:
            program = read(text)
            with self.subTest(text):
                types, rows = infer(program)
                before = (list(types), list(rows))
                self.assertIs(is_typing(program, types, rows), True)
                self.assertEqual((types, rows), before)

    def test_it_stays_right_with_an_operation_in_every_row(self):
        for text in self.TEXTS:
            program = read(text)
            types, rows = infer(program)
            names = [name for name, _, _ in program[1]]
            for name in [*names, "a_name_of_none", "zzz"]:
                with self.subTest(text, name=name):
                    more_types = [more_of(one, name) for one in types]
                    more_rows = [tuple(sorted({*row, name})) for row in rows]
                    self.assertIs(is_typing(program, more_types, more_rows), True)

    def test_it_is_wrong_with_less_in_a_row(self):
        # The rows are the least ones for these types.
        for text in self.TEXTS:
            program = read(text)
            types, rows = infer(program)
            for number, row in enumerate(rows):
                for name in row:
                    with self.subTest(text, number=number, name=name):
                        less = list(rows)
                        less[number] = tuple(each for each in row if each != name)
                        self.assertIs(is_typing(program, types, less), False)

    def test_it_is_wrong_with_another_type_for_an_expression(self):
        # This is not a type inside of any other one there.
        strange = ("pair", ("pair", UNIT, ("pair", UNIT, BOOL)), ("pair", UNIT, UNIT))
        for text in self.TEXTS:
            program = read(text)
            types, rows = infer(program)
            for number in range(len(types)):
                with self.subTest(text, number=number):
                    other = [*types[:number], strange, *types[number + 1:]]
                    self.assertIs(is_typing(program, other, rows), False)


if __name__ == "__main__":
    unittest.main()
