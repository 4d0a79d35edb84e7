"""Programs for the tests of the roads, with the steps they need, what they print, and how they end.

All of this was worked out by hand. `infer` accepts each of these programs.
"""

# The name of a sample, its text, the number of its steps, its prints, and its end.
ENDING = (
    ("number", "7", 0, (), ("value", ("int", 7))),
    ("flag", "false", 0, (), ("value", ("bool", False))),
    ("unit", "unit", 0, (), ("value", ("unit",))),
    ("function", "fun x => x", 0, (), ("value", ("fun",))),
    ("recursive function", "rec f x => f x", 0, (), ("value", ("fun",))),
    ("sums", "1 + 2 * 3 - 4", 0, (), ("value", ("int", 3))),
    ("to the left", "10 - 3 - 2", 0, (), ("value", ("int", 5))),
    ("too large", "2147483647 + 1", 0, (), ("value", ("int", -2147483648))),
    (
        "functions in pairs", "(fun x => x, ((1, true), (unit, rec f x => x)))", 0, (),
        ("value", ("pair", ("fun",), ("pair", ("pair", ("int", 1), ("bool", True)),
                                      ("pair", ("unit",), ("fun",))))),
    ),
    (
        "order in a pair", "(print 1; 10, print 2; 20)", 0, (1, 2),
        ("value", ("pair", ("int", 10), ("int", 20))),
    ),
    (
        "order in a call", "(print 1; fun x => print 3; x + 1) (print 2; 4)", 1, (1, 2, 3),
        ("value", ("int", 5)),
    ),
    ("order in a difference", "(print 1; 5) - (print 2; 3)", 0, (1, 2), ("value", ("int", 2))),
    ("order in a comparison", "(print 1; 5) < (print 2; 3)", 0, (1, 2), ("value", ("bool", False))),
    ("order in a let", "let x = print 1; 5 in print x; x * x", 0, (1, 5), ("value", ("int", 25))),
    ("the first branch", "if print 1; true then print 2; 20 else print 3; 30", 0, (1, 2), ("value", ("int", 20))),
    ("the other branch", "if print 1; false then print 2; 20 else print 3; 30", 0, (1, 3), ("value", ("int", 30))),
    ("order in a print", "print (print 1; 2); print 3; 4", 0, (1, 2, 3), ("value", ("int", 4))),
    ("order in halves", "fst (print 1; (2, 3)) + snd (print 4; (5, 6))", 0, (1, 4), ("value", ("int", 8))),
    ("order in a not", "not (print 1; 2 < 1)", 0, (1,), ("value", ("bool", True))),
    (
        "a branch with a call that is not taken", "let f = fun x => print 9; x in if false then f 1 else 2",
        0, (), ("value", ("int", 2)),
    ),
    (
        "hidden names",
        "let x = 1 in let y = (let x = 2 in x * 10) in (fun x => x + y) (x + 100) + x",
        1, (), ("value", ("int", 122)),
    ),
    (
        "where a function was made counts",
        "let x = 1 in let f = fun y => x * 10 + y in let x = 5 in f x", 1, (), ("value", ("int", 15)),
    ),
    ("a rec with the same name twice", "(rec f f => f + 1) 4", 1, (), ("value", ("int", 5))),
    ("a rec hides names", "let n = 7 in let f = 8 in (rec f n => if n < 1 then 0 else f (n - 1)) n + f",
     8, (), ("value", ("int", 8))),
    (
        "a product of many", "(rec f n => if n == 0 then 1 else n * f (n - 1)) 5", 6, (),
        ("value", ("int", 120)),
    ),
    ("functions of functions", "(fun f => fun x => f (f x)) (fun y => y * 3) 5", 4, (), ("value", ("int", 45))),
    (
        "names of where a handler stands",
        "effect o : int -> int; let y = 1 in handle (let y = 50 in ask o y) + (let w = 700 in w) "
        "{ return x => let w = 2 in x + y + w | o z k => let y = y + 10 in k (y + z) }",
        2, (), ("value", ("int", 11 + 50 + 700 + 1 + 2)),
    ),
    (
        "names of where a function stands that is called elsewhere",
        "effect o : int -> int; let y = 1 in let f = fun x => ask o (x + y) in let y = 20 in "
        "handle (let y = 300 in f y) { return x => x + y | o z k => let f = fun y => k (y + z) in f (y * 2) }",
        4, (), ("value", ("int", 301 + 40 + 20)),
    ),
    (
        "order around an ask",
        "effect o : int -> int; handle ask o (print 1; 5) "
        "{ return x => print 4; x | o y k => print 2; print y; k (print 3; y + 1) }",
        2, (1, 2, 5, 3, 4), ("value", ("int", 6)),
    ),
    (
        "the example of the interface",
        "effect o : int -> int; handle ask o 3 + ask o 4 { return x => (x, 0) | o y k => k (y * 10) }",
        4, (), ("value", ("pair", ("int", 70), ("int", 0))),
    ),
    (
        "both ways",
        "effect c : unit -> bool; handle (if ask c unit then print 1; 2 else print 3; 4) "
        "{ return x => x | c u k => k true + k false }",
        3, (1, 3), ("value", ("int", 6)),
    ),
    (
        "a handler whose operation is not asked for",
        "effect o : int -> int; handle print 1; 2 { return x => print 3; x + 1 | o y k => print 4; k y }",
        0, (1, 3), ("value", ("int", 3)),
    ),
    (
        "a handler without clauses",
        "handle print 1; 2 { return x => print 3; x + 1 }", 0, (1, 3), ("value", ("int", 3)),
    ),
    (
        "never resumed",
        "effect o : int -> int; handle 1 + (ask o 5 + (print 9; 1)) { return x => x * 100 | o y k => y * 2 }",
        1, (), ("value", ("int", 10)),
    ),
    (
        # 1 + (100 + (2 + (100 + ..))) with 5 + 6 doubled by the return clause.
        "resumed behind something",
        "effect o : int -> int; handle ask o 5 + ask o 6 { return x => x * 2 | o y k => 100 + k y }",
        4, (), ("value", ("int", 222)),
    ),
    (
        # The sums are 1 + 2, 1 + 20, 10 + 2 and 10 + 20.
        "resumed twice",
        "effect o : int -> int; handle ask o 1 + ask o 2 { return x => print x; x | o y k => k y + k (y * 10) }",
        9, (3, 21, 12, 30), ("value", ("int", 66)),
    ),
    (
        # The inner call gives 1 + 10, for which the return clause gives 22; so the outer one gives 64.
        "resumed with the value of the resumption",
        "effect o : int -> int; handle ask o 1 + 10 { return x => print x; x * 2 | o y k => k (k y) }",
        3, (11, 32), ("value", ("int", 64)),
    ),
    (
        "resumed later, in a function",
        "effect o : int -> int; (handle (print 1; ask o 5) + 1 "
        "{ return x => fun s => x + s | o y k => fun s => k (y + s) s }) (print 2; 3)",
        # The ask; the function, the resumption, and the function that the return clause gives.
        4, (1, 2), ("value", ("int", 12)),
    ),
    (
        "a clause with the same name twice",
        "effect o : int -> int; handle ask o 1 + 1 { return x => x | o k k => k 5 }",
        2, (), ("value", ("int", 6)),
    ),
    (
        # The clause of the inner handler asks for o again, which the outer one answers with 10 * 7;
        # the resumption then goes on inside of the inner one, which answers the second ask, too.
        "a clause that asks for its own operation",
        "effect o : int -> int; handle handle ask o 1 + ask o 2 "
        "{ return x => x | o y k => k (ask o (y + 6)) } { return x => print x; x | o y k => k (y * 10) }",
        8, (150,), ("value", ("int", 150)),
    ),
    (
        "a clause outside of the handlers between",
        # The clause of o asks for p, and is outside of the handler of p that is further in.
        "effect o : int -> int; effect p : int -> int; "
        "handle handle handle ask o 1 + ask p 2 { return x => print 1; x | p y k => k (y * 10) } "
        "{ return x => print 2; x | o y k => k (ask p y) } { return x => print 3; x | p y k => k (y * 100) }",
        6, (1, 2, 3), ("value", ("int", 120)),
    ),
    (
        # All three parts are kept with the handlers between, so both return clauses run twice.
        "handlers between are kept",
        "effect c : unit -> bool; effect p : int -> int; "
        "handle handle (if ask c unit then ask p 1 else ask p 2) "
        "{ return x => print x; x + 1 | p y k => k (y * 10) } "
        "{ return x => print 100; x | c u k => k true + k false }",
        7, (10, 100, 20, 100), ("value", ("int", 32)),
    ),
    (
        # The innermost of three, the middle one, and the outermost one.
        "one of three handlers answers",
        "effect a : int -> int; effect b : int -> int; effect c : int -> int; "
        "handle handle handle (ask a 1 * 100 + ask b 2 * 10) + ask c 3 "
        "{ return x => print 1; x | a y k => k (y + 1) } { return x => print 2; x | b y k => k (y + 1) } "
        "{ return x => print 3; x | c y k => k (y + 1) }",
        6, (1, 2, 3), ("value", ("int", 234)),
    ),
    (
        "the innermost of those that could",
        "effect o : int -> int; handle handle ask o 1 { return x => x + 10 | o y k => print 1; k y } "
        "{ return x => x + 100 | o y k => print 2; k y }",
        2, (1,), ("value", ("int", 111)),
    ),
    (
        # The resumption is called where p is answered in another way than around the first ask;
        # the handler of p inside of it answers first, and o is answered by its own handler again.
        "resumed inside of another handler",
        "effect o : int -> int; effect p : int -> int; "
        "handle (handle ask o 1 + (ask o 2 + ask p 3) { return x => x "
        "| o y k => handle k (y * 10) { return z => print z; z + 1000 | p y k => k (y * 100) } }) "
        "{ return x => x | p y k => k 0 }",
        6, (330, 1330), ("value", ("int", 2330)),
    ),
    (
        "what a resumption is called with may be asked for",
        "effect o : int -> int; effect p : unit -> int; "
        "handle handle ask o 1 + 1 { return x => x | o y k => k (ask p unit) + k (ask p unit) } "
        "{ return x => x | p u k => k 5 }",
        7, (), ("value", ("int", 12)),
    ),
    (
        "two clauses in one handler",
        "effect o : int -> int; effect stop : int -> unit; "
        "handle (print ask o 1; let u = ask stop 7 in print 9; 1) "
        "{ return x => x | o y k => k (y + 1) + 1000 | stop n k => n }",
        3, (2,), ("value", ("int", 1007)),
    ),
    (
        # With 2: get gives 2, put 3 and put 6 (get gives 3), and the return clause sees 6.
        "a state",
        "effect get : unit -> int; effect put : int -> unit; "
        "(handle (let u = ask put (ask get unit + 1) in let u = ask put (ask get unit * 2) in ask get unit + 100) "
        "{ return x => fun s => (x, s) | get u k => fun s => k s s | put n k => fun s => k unit n }) 2",
        16, (), ("value", ("pair", ("int", 106), ("int", 6))),
    ),
    (
        "the example of the whole",
        "effect get : unit -> int; effect put : int -> unit; "
        "(handle (let u = ask put 5 in ask get unit + 1) "
        "{ return x => fun s => (x, s) | get u k => fun s => k s s | put n k => fun s => k unit n }) 2",
        7, (), ("value", ("pair", ("int", 6), ("int", 5))),
    ),
    (
        "all ways of two flags",
        "effect flip : unit -> bool; "
        "handle (let a = ask flip unit in let b = ask flip unit in "
        "print (if a then 10 else 0) + (if b then 1 else 0); if a then (if b then 1 else 2) else 4) "
        "{ return x => x * 10 | flip u k => k true + k false }",
        9, (11, 10, 1, 0), ("value", ("int", 110)),
    ),
    (
        "all ways of three numbers",
        "effect one : unit -> int; handle (let a = ask one unit in let b = ask one unit in print a * 10 + b; a * b) "
        "{ return x => x | one u k => k 1 + k 2 + k 3 }",
        16, (11, 12, 13, 21, 22, 23, 31, 32, 33), ("value", ("int", 36)),
    ),
    (
        "a loop that is ended early",
        "effect stop : int -> unit; handle (rec loop n => let u = if 20 < n * n then ask stop n else unit "
        "in print n; loop (n + 1)) 1 { return x => 0 | stop n k => n * 100 }",
        6, (1, 2, 3, 4), ("value", ("int", 500)),
    ),
    (
        "a generator",
        "effect give : int -> unit; handle (rec each n => if 3 < n then unit else "
        "let u = ask give (n * n) in each (n + 1)) 1 { return x => 77 | give n k => print n; k unit }",
        10, (1, 4, 9), ("value", ("int", 77)),
    ),
    (
        "a sum of what a generator gives",
        "effect give : int -> unit; handle (rec each n => if 3 < n then unit else "
        "let u = ask give (n * n) in each (n + 1)) 1 { return x => 0 | give n k => n + k unit }",
        10, (), ("value", ("int", 14)),
    ),
    (
        "a handler that asks again, around both ways",
        "effect c : unit -> bool; handle handle (if ask c unit then print 1; 2 else print 3; 4) "
        "{ return x => x | c u k => k (ask c unit) } { return x => x | c u k => k true + k false }",
        # Both asks, and for each of the two ways the resumption of the outer and that of the inner.
        6, (1, 3), ("value", ("int", 6)),
    ),
    (
        "handlers without clauses around a state",
        "effect get : unit -> int; effect put : int -> unit; effect no : unit -> unit; "
        "handle (handle (handle (let u = ask put (ask get unit + 1) in ask get unit) { return x => x }) "
        "{ return x => fun s => (x, s) | get u k => fun s => k s s | put n k => fun s => k unit n }) 2 "
        "{ return x => x | no u k => k unit }",
        10, (), ("value", ("pair", ("int", 3), ("int", 3))),
    ),
    (
        # The answer in place binds, decides and prints, and asks for an operation further out.
        "a clause that does everything and then answers",
        "effect o : int -> int; effect p : int -> int; "
        "handle handle handle ask o 3 + ask o 30 { return x => x | p y k => k 0 } "
        "{ return x => x | o y k => let z = ask p y in if z < 10 then print z; k (z + 1) else print 0; k (ask p z) } "
        "{ return x => x | p y k => print y; k (y * 2) }",
        # o 3, p 3 (2 more), k: 4 steps; o 30, p 30, p 60 (2 more each), k: 6 steps.
        10, (3, 6, 30, 0, 60), ("value", ("int", 127)),
    ),
    (
        # p keeps the context in which the clause of o is at work, and goes on twice.
        "what is kept while a clause is at work that answers at once",
        "effect o : int -> int; effect p : int -> int; "
        "handle handle ask o 1 + ask o 2 { return x => print x; x | o y k => k (ask p y) } "
        "{ return x => x | p y k => k (y * 10) + k (y * 100) }",
        # o 1, p 1; for each of the two ways the resumption of p and of o, o 2, p 2, and for each of
        # two ways both resumptions again.
        2 + 2 * (2 + 2 + 2 * 2), (30, 210, 120, 300), ("value", ("int", 660)),
    ),
    (
        # p is asked for inside of the resumption, and answered by the handler around its call.
        "answers of both kinds in one handler",
        "effect o : int -> int; effect p : int -> int; "
        "handle ask o 1 + (ask p 2 + ask o 3) "
        "{ return x => x | o y k => k (y * 10) | p y k => k y + k (y * 100) }",
        # o, p and o twice: 2 for o, 1 for p, then for each way 1 and 2.
        2 + 1 + 2 * 3, (), ("value", ("int", 282)),
    ),
)

# The name of a sample, its text, its steps, its prints, and the operation that nobody answers.
UNHANDLED = (
    (
        "an ask alone", "effect o : int -> int; print 1; ask o (print 2; 3) + (print 4; 1)",
        1, (1, 2), "o",
    ),
    (
        "in a handler for another operation",
        "effect o : int -> int; effect p : int -> int; "
        "handle print 1; ask p 1 { return x => print 9; x | o y k => k y }",
        1, (1,), "p",
    ),
    (
        "in a clause for it",
        "effect o : int -> int; handle ask o 1 { return x => x | o y k => print y; ask o 2 }",
        2, (1,), "o",
    ),
    (
        "in a clause for it that answers at once",
        "effect o : int -> int; handle ask o 1 { return x => x | o y k => print y; k (ask o 2) }",
        2, (1,), "o",
    ),
    (
        "in a return clause",
        "effect o : int -> int; handle print 1; 2 { return x => print x; ask o x | o y k => k y }",
        1, (1, 2), "o",
    ),
    (
        "behind a resumption",
        "effect o : int -> int; effect p : int -> int; "
        "handle ask o 1 + ask p 2 { return x => x | o y k => print 5; k y }",
        3, (5,), "p",
    ),
    (
        "in the second of two ways",
        "effect c : unit -> bool; effect p : int -> int; "
        "handle if ask c unit then print 1; 2 else ask p 3 { return x => x | c u k => k true + k false }",
        4, (1,), "p",
    ),
    (
        "below a handler that has ended",
        "effect o : int -> int; (handle ask o 1 { return x => x | o y k => k y }) + ask o 2",
        3, (), "o",
    ),
)

# The name of a sample, its text, and the numbers of steps, up to MOST_STEPS, from which on it has
# printed one integer more. It prints the integers from 0 on, and does not end.
MOST_STEPS = 60
ENDLESS = (
    ("a loop", "(rec loop n => loop (n + 1)) 0", ()),
    ("a loop that prints", "(rec loop n => print n; loop (n + 1)) 0", tuple(range(1, 61))),
    (
        "a loop that asks",
        "effect o : int -> int; handle (rec loop n => loop (ask o n)) 0 { return x => x | o y k => print y; k (y + 1) }",
        tuple(range(2, 61, 3)),
    ),
    (
        "a loop that asks and is waited for",
        "effect o : int -> int; handle (rec loop n => loop (ask o n)) 0 "
        "{ return x => x | o y k => print y; k (y + 1) + 1 }",
        tuple(range(2, 61, 3)),
    ),
    ("a loop that waits for its value", "(rec loop n => print n; loop (n + 1) + 1) 0", tuple(range(1, 61))),
    (
        "a loop of handlers",
        "effect o : int -> int; (rec loop n => handle print n; loop (n + 1) { return x => x | o y k => k y }) 0",
        tuple(range(1, 61)),
    ),
    ("functions in functions", "(rec loop f => loop (fun y => f (f y))) (fun x => x)", ()),
    (
        # A call of f is 1 step at first. In each round the ask and loop are a step each, and a call
        # of the new f is 3 steps more: the new f itself, its resumption, and what that gives.
        "resumptions in functions",
        "effect o : unit -> int; (rec loop f => print f 0; loop (handle ask o unit + f 0 "
        "{ return x => fun s => x + s | o u k => fun s => k 1 s })) (fun s => s)",
        (2, 2 + 2 + 4, 8 + 2 + 7, 17 + 2 + 10, 29 + 2 + 13),
    ),
    (
        # loop, get, the function that its clause gives, and k, which prints; put, its function, and k.
        "a state that goes on",
        "effect get : unit -> int; effect put : int -> unit; "
        "(handle (rec loop u => let n = ask get unit in print n; loop (ask put (n + 1))) unit "
        "{ return x => fun s => s | get u k => fun s => k s s | put n k => fun s => k unit n }) 0",
        tuple(range(4, 61, 7)),
    ),
)
