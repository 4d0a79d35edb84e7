"""Reading: point RD5 (errors)."""

import unittest

from askedfor.errors import Malformed
from askedfor.reader import read

# Texts of all forms, with a space between each two tokens, and after how many tokens a
# complete program has been read already.
TEXTS = (
    ("1", (1,)),
    ("true", (1,)),
    ("x", (1,)),
    ("( 1 )", (3,)),
    ("( 1 , 2 )", (5,)),
    ("fst x", (2,)),
    ("snd ( 1 , 2 )", (6,)),
    ("not not x", (3,)),
    ("ask o x", (3,)),
    ("ask o ask p f x", (5, 6)),
    ("f x 1 unit false", (1, 2, 3, 4, 5)),
    ("1 * 2 * 3", (1, 3, 5)),
    ("1 + 2 - 3", (1, 3, 5)),
    ("1 + 2 * f x", (1, 3, 5, 6)),
    ("1 < 2", (1, 3)),
    ("1 == 2 + 3", (1, 3, 5)),
    ("fun x => y", (4,)),
    ("rec h x => y", (5,)),
    ("let x = 1 in y", (6,)),
    ("if a then b else c", (6,)),
    ("print 1 ; 2", (4,)),
    ("print 1 + f 2 ; fun x => x", (10,)),
    ("handle e { return x => f }", (8,)),
    ("handle e { return x => f | o y k => g }", (14,)),
    ("handle e { return x => f | o y k => g | p y k => h }", (20,)),
    ("handle let x = 1 in x { return x => print 1 ; x | o y k => fun s => s }", (25,)),
)

DECLARATIONS = (
    "effect o : int -> bool ; 1",
    "effect o : unit -> ( int , unit ) ; 1",
    "effect o : ( bool , ( unit , int ) ) -> int ; 1",
    "effect o : int -> int ; effect p : int -> int ; 1",
)

# Texts in which the token behind the mark @ is the first that does not fit.
MARKED = (
    # atoms and parentheses
    "@)", "@}", "@|", "@,", "@:", "@;", "@=", "@=>", "@->", "@==", "@<", "@+", "@-", "@*", "@{",
    "@in 1", "@then", "@else", "@return", "@int", "@bool",
    "(@)", "(@,", "(1 @}", "(1 @;", "(1 @in", "(1, @)", "(1, 2 @, 3)", "(1, 2 @}", "(1 @=> 2)",
    "(@, 1)", "((1) @;", "(1, (2, 3 @, 4))",
    # prefixes and calls
    "fst @", "fst @)", "snd @+", "not @fun x => x", "not @let x = 1 in x", "fst @print 1; 2",
    "fst @if a then b else c", "snd @handle e { return x => x }", "not @rec h x => x",
    "ask @1", "ask @(o) 1", "ask @true", "ask @unit", "ask @ask o 1", "ask @in", "ask o @+ 1",
    "ask o @", "ask @", "ask o @)", "ask o @=", "ask o @fun x => x", "ask @= 1",
    "f @fun x => x", "f @not x", "f @fst x", "f @snd x", "f @ask o 1", "f @let x = 1 in x",
    "f @if a then b else c", "f @rec h x => x", "f @print 1; 2", "f @handle e { return x => x }",
    "f x @= y", "f @: x", "f @in", "f (x @;", "f (@)", "f @effect o : int -> int; 1",
    # signs between
    "1 + @", "1 - @", "1 * @", "1 < @", "1 == @", "1 + @+ 1", "1 + @- 1", "1 - @-> 1", "1 * @* 2",
    "1 + @* 2", "1 * @+ 2", "1 < @< 2", "1 < @== 2", "1 == @== 2", "1 == @= 2", "@- 1",
    "1 + @fun x => x", "1 * @let x = 1 in x", "1 - @if a then b else c", "1 < @print 1; 2",
    "1 == @rec h x => x", "1 + @handle e { return x => x }", "1 + @in", "1 + @)", "1 @= 2",
    "1 < 2 @< 3", "1 == 2 @== 3", "1 < 2 @== 3", "1 == 2 @< 3", "1 + 2 < 3 + 4 @< 5", "1 < 2 @)",
    # functions
    "fun @", "fun @=> x", "fun @1 => x", "fun @in => x", "fun @(x) => x", "fun x @", "fun x @y => x",
    "fun x @= x", "fun x @-> x", "fun x @== x", "fun x @x", "fun x => @", "fun x => @)", "fun x => @=> x",
    "rec @", "rec @=> x", "rec @1 x => x", "rec h @", "rec h @=> x", "rec h @1 => x", "rec h @fun => x",
    "rec h x @", "rec h x @y => x", "rec h x @= x", "rec h x => @", "rec h x => @in",
    # let, if, print
    "let @", "let @= 1 in x", "let @1 = 1 in x", "let @rec = 1 in x", "let @(x) = 1 in x", "let x @",
    "let x @== 1 in x", "let x @=> 1 in x", "let x @1", "let x @y = 1 in x", "let x = @", "let x = @in x",
    "let x = 1 @", "let x = 1 @; x", "let x = 1 @then x", "let x = 1 @= 2 in x", "let x = 1 in @",
    "let x = 1 in @in", "let x = 1 in x @in x", "let x = 1 @let y = 2 in x",
    "if @", "if @then 1 else 2", "if a @", "if a @else 1", "if a @; 1", "if a @{ 1 }", "if a then @",
    "if a then @else 1", "if a then 1 @", "if a then 1 @then 2", "if a then 1 @; 2", "if a then 1 else @",
    "if a then 1 else @else 2", "if a then 1 else 2 @else 3",
    "print @", "print @; 1", "print @fun x => x; 1", "print @let x = 1 in x; 1", "print @print 1; 2",
    "print @if a then b else c; 1", "print @handle e { return x => x }; 1", "print 1 @", "print 1 @, 2",
    "print 1 @< 2; 3", "print 1 @== 2; 3", "print 1 @in 2", "print 1; @", "print 1; @; 2", "print 1; @)",
    "print 1; 2 @; 3", "print 1 + @; 2",
    # handle
    "handle @", "handle @{ return x => x }", "handle e @", "handle e @}", "handle e @return", "handle e @= 1",
    "handle e { @", "handle e { @}", "handle e { @x => x }", "handle e { @| o y k => g }", "handle e { @in",
    "handle e { @1", "handle e { return @", "handle e { return @=> x }", "handle e { return @1 => x }",
    "handle e { return @return => x }", "handle e { return x @", "handle e { return x @= x }",
    "handle e { return x @y => x }", "handle e { return x => @", "handle e { return x => @}",
    "handle e { return x => @| o y k => g }", "handle e { return x => f @", "handle e { return x => f @)",
    "handle e { return x => f @, 1 }", "handle e { return x => f @; 1 }", "handle e { return x => f @return",
    "handle e { return x => f | @", "handle e { return x => f | @}", "handle e { return x => f | @1 y k => g }",
    "handle e { return x => f | @return y => g }", "handle e { return x => f | @=> g }",
    "handle e { return x => f | @| o y k => g }",
    "handle e { return x => f | o @", "handle e { return x => f | o @=> g }", "handle e { return x => f | o @1 k => g }",
    "handle e { return x => f | o @in k => g }", "handle e { return x => f | o @(y) k => g }",
    "handle e { return x => f | o y @", "handle e { return x => f | o y @=> g }", "handle e { return x => f | o y @2 => g }",
    "handle e { return x => f | o y @fun => g }", "handle e { return x => f | o y k @", "handle e { return x => f | o y k @g",
    "handle e { return x => f | o y k @= g }", "handle e { return x => f | o y k @-> g }",
    "handle e { return x => f | o y k => @", "handle e { return x => f | o y k => @}", "handle e { return x => f | o y k => @| p",
    "handle e { return x => f | o y k => g @", "handle e { return x => f | o y k => g @)",
    "handle e { return x => f | o y k => g @; 1 }", "handle e { return x => f | o y k => g } @| p y k => g }",
    "handle e { return x => f } @{ return x => f }", "handle e { return x => f } @x", "handle e { return x => f } @+ 1",
    "handle e { return x => f } @}", "handle e { return x => f | o y k => g @return x => f }",
    # declarations
    "effect @", "effect @: int -> int; 1", "effect @1 : int -> int; 1", "effect @int : int -> int; 1",
    "effect @effect : int -> int; 1", "effect @(o) : int -> int; 1", "effect o @", "effect o @int -> int; 1",
    "effect o @= int -> int; 1", "effect o @p : int -> int; 1", "effect o @; 1", "effect o : @", "effect o : @-> int; 1",
    "effect o : @x -> int; 1", "effect o : @1 -> int; 1", "effect o : @true -> int; 1", "effect o : @) -> int; 1",
    "effect o : @fun x => x", "effect o : int @", "effect o : int @; 1", "effect o : int @=> int; 1",
    "effect o : int @int; 1", "effect o : int @- int; 1", "effect o : int @, int; 1", "effect o : int -> @",
    "effect o : int -> @; 1", "effect o : int -> @x; 1", "effect o : int -> @unit_; 1", "effect o : int -> int @",
    "effect o : int -> int @1", "effect o : int -> int @-> int; 1", "effect o : int -> int @effect p : int -> int; 1",
    "effect o : int -> int @, int; 1", "effect o : int -> int @| 1", "effect o : int -> int; @",
    "effect o : int -> int; @; 1", "effect o : int -> int; @: 1", "effect o : int -> int; @int",
    "effect o : int -> int; 1 @effect p : int -> int; 1", "effect o : int -> int; 1 @;", "1 @; effect o : int -> int",
    "effect o : int -> int; effect @1", "effect o : int -> int; effect p @-> int",
    "effect o : (@) -> int; 1", "effect o : (int @) -> int; 1", "effect o : (@, int) -> int; 1", "effect o : (int, @) -> int; 1",
    "effect o : (int, int @, int) -> int; 1", "effect o : (int @int) -> int; 1", "effect o : (int, int @-> int; 1",
    "effect o : ((int, int) @) -> int; 1", "effect o : int -> (int, int @; 1", "effect o : (int @-> int) -> int; 1",
    "effect o : (@x, int) -> int; 1", "(@effect o : int -> int; 1)", "let x = @effect o : int -> int; 1 in x",
    # behind a complete program
    "1 @)", "1 @}", "1 @|", "1 @,", "1 @:", "1 @;", "1 @=", "1 @=>", "1 @->", "1 @{", "1 @in", "1 @then", "1 @else",
    "1 @return", "1 @int", "1 @effect", "1 @fun x => x", "1 @let x = 1 in x", "1 @not 1", "(1) @)", "(1, 2) @, 3",
    "fun x => x @=> x", "let x = 1 in 2 @in 3", "print 1; 2 @; 3", "1 @) 2 )", "x @= 1",
    # an end that is too early
    "@", "(@", "((1)@", "(1@", "(1,@", "(1, 2@", "1 +@", "((((1)))@", "f (@", "f (x@", "(fun x => x@",
)


def joined(tokens):
    return " ".join(tokens)


class MalformedTest(unittest.TestCase):
    def check(self, text, at):
        with self.subTest(text):
            with self.assertRaises(Malformed) as held:
                read(text)
            self.assertEqual(held.exception.at, at)

    def check_wrong_tokens(self, text, wrong):
        """A wrong token at each place, instead of a token and before it."""
        tokens = text.split()
        for place in range(len(tokens) + 1):
            before = joined(tokens[:place] + [""])
            at = 0 if place == 0 else len(before)
            self.check(joined(tokens[:place] + [wrong] + tokens[place:]), at)
            self.check(joined(tokens[:place] + [wrong] + tokens[place + 1:]), at)
            self.check(joined(tokens[:place] + [wrong]), at)

    def test_example(self):
        self.check("fst (1, 2", 9)

    def test_the_marked_token(self):
        for marked in MARKED:
            self.assertEqual(marked.count("@"), 1, marked)
            text = marked.replace("@", "")
            self.check(text, marked.index("@"))
            self.check("\n " + text, marked.index("@") + 2)

    def test_a_wrong_token_at_each_place(self):
        for text, _ in TEXTS:
            read(text)
            for wrong in (":", "->", "int"):
                self.check_wrong_tokens(text, wrong)
        for text in DECLARATIONS:
            read(text)
            for wrong in ("|", "then", "=>", "{"):
                self.check_wrong_tokens(text, wrong)

    def test_a_declaration_stands_only_before_the_expression(self):
        for text, _ in TEXTS:
            tokens = text.split()
            for place in range(1, len(tokens) + 1):
                before = joined(tokens[:place]) + " "
                self.check(before + "effect o : int -> int ; 1", len(before))

    def test_an_end_at_each_place(self):
        for text, complete in TEXTS:
            tokens = text.split()
            for many in range(len(tokens) + 1):
                begin = joined(tokens[:many])
                if many in complete:
                    read(begin)
                else:
                    self.check(begin, len(begin))
                    self.check(begin + " ", len(begin) + 1)
                    self.check(begin + "\n \n", len(begin) + 3)

    def test_an_end_at_each_place_of_a_declaration(self):
        for text in DECLARATIONS:
            tokens = text.split()
            for many in range(len(tokens)):
                begin = joined(tokens[:many])
                self.check(begin, len(begin))
                self.check(begin + "  ", len(begin) + 2)

    def test_the_empty_text(self):
        self.check("", 0)
        self.check("   ", 3)
        self.check("\n", 1)

    def test_a_long_text_that_ends_too_early(self):
        self.check("1 + " + " " * 9996, 10000)
        self.check("(" + "x" + " " * 9000, 9002)

    def test_what_the_tokens_raise_comes_first(self):
        self.check(") ?", 2)
        self.check("1 ) 2 ) 01", 8)
        self.check("let = = ( 2147483648", 10)
        self.check("effect effect 3x", 14)
        self.check("fun => " + "a" * 21, 7)
        self.check("( ( 1 A", 6)
        self.check(") ) \t", 4)

    def test_the_first_misfit_counts(self):
        self.check("1 ) ) )", 2)
        self.check("fun => => x )", 4)
        self.check("let x = ; in (", 8)


if __name__ == "__main__":
    unittest.main()
