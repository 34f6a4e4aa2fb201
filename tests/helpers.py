"""What several tests need: a sample with its text, made-up programs, and a look for shared lists."""

import copy

SAMPLE_TEXT = """ranks low mid high
under low mid
under mid high
may ann high low
may bob mid low
box a low
box s high
list r 8 ?
list q 1 mid
box end ?
def f low x high y ?
set f + x y
if < f 3
put r f 1
else
end
end
def g ?
end
set a 0
put r @ q 0 * 2 a
out a bob - s 999999999999
call a g
call end f @ r end = a s
if a
while s
if 1
set a 1
else
while 0
end
end
end
else
set s 7
end
while 0
end"""

SAMPLE_NAMES = ["low", "mid", "high"]

SAMPLE_PAIRS = [("low", "mid"), ("mid", "high")]


def num(n):
    return ("num", n)


def box(x):
    return ("box", x)


def sample_program():
    """The program of SAMPLE_TEXT, each time of new lists."""
    boxes = [("a", 0, "low"), ("s", 0, "high"), ("r", 8, None), ("q", 1, "mid"), ("end", 0, None)]
    grants = [("ann", "high", "low"), ("bob", "mid", "low")]
    f_rows = [
        ("set", "f", ("+", box("x"), box("y"))),
        ("if", ("<", box("f"), num(3)), [("put", "r", box("f"), num(1))], []),
    ]
    functions = [("f", "low", [("x", "high"), ("y", None)], f_rows), ("g", None, [], [])]
    inner = ("if", num(1), [("set", "a", num(1))], [("while", num(0), [])])
    rows = [
        ("set", "a", num(0)),
        ("put", "r", ("@", "q", num(0)), ("*", num(2), box("a"))),
        ("out", "a", ("-", box("s"), num(999999999999)), "bob"),
        ("call", "a", "g", []),
        ("call", "end", "f", [("@", "r", box("end")), ("=", box("a"), box("s"))]),
        ("if", box("a"), [("while", box("s"), [inner])], [("set", "s", num(7))]),
        ("while", num(0), []),
    ]
    return (boxes, grants, functions, rows)


def lists_in(told):
    """Every list and dict within what is told, itself too, each as often as it stands there."""
    found = []
    if isinstance(told, (list, dict)):
        found.append(told)
    if isinstance(told, dict):
        told = list(told.values())
    if isinstance(told, (list, tuple)):
        for part in told:
            found.extend(lists_in(part))
    return found


def spoil(told):
    """Change every list within what is told."""
    for one in lists_in(told):
        one.append("spoilt")


def own_lists(case, told, *handed):
    """Each place of what is told holds a list of its own, and none of those handed in."""
    places = [id(one) for one in lists_in(told)]
    case.assertEqual(len(places), len(set(places)))
    case.assertEqual(set(places) & {id(one) for one in lists_in(handed)}, set())


def keeps_to_itself(case, ask, *handed):
    """Asking changes nothing that is handed in, and spoiling what is told changes no later answer."""
    before = copy.deepcopy(handed)
    told = ask(*handed)
    case.assertEqual(handed, before)
    own_lists(case, told, *handed)
    kept = copy.deepcopy(told)
    spoil(told)
    case.assertEqual(handed, before)
    case.assertEqual(ask(*handed), kept)


NAMES = ["a", "b", "end", "else", "if", "set", "ranks", "under", "box", "list", "def", "abcdefgh", "main"]

NUMBERS = [0, 1, 9, 10, 100, 999999999999]


def made_expression(chance, deep):
    kind = chance.choice(["num", "box", "@", "+", "-", "*", "<", "="]) if deep > 1 else chance.choice(["num", "box"])
    if kind == "num":
        return num(chance.choice(NUMBERS))
    if kind == "box":
        return box(chance.choice(NAMES))
    if kind == "@":
        return ("@", chance.choice(NAMES), made_expression(chance, deep - 1))
    return (kind, made_expression(chance, deep - 1), made_expression(chance, deep - 1))


def made_row(chance, deep):
    kind = chance.choice(["set", "put", "out", "call", "if", "while"] if deep else ["set", "put", "out", "call"])
    one, other, x, y = [made_expression(chance, 3), made_expression(chance, 3)] + chance.choices(NAMES, k=2)
    if kind == "set":
        return ("set", x, one)
    if kind == "put":
        return ("put", x, one, other)
    if kind == "out":
        return ("out", x, one, y)
    if kind == "call":
        return ("call", x, y, [made_expression(chance, 2) for k in range(chance.randrange(4))])
    if kind == "while":
        return ("while", one, made_rows(chance, deep - 1))
    return ("if", one, made_rows(chance, deep - 1), made_rows(chance, deep - 1))


def made_rows(chance, deep):
    return [made_row(chance, deep) for k in range(chance.randrange(3))]


def made_rank(chance):
    return chance.choice(NAMES + [None] * 5)


def made_telling(chance):
    """Names, pairs and a program that may have any faults but names that are none."""
    names = chance.choices(NAMES, k=chance.randrange(1, 4))
    pairs = [tuple(chance.choices(NAMES, k=2)) for k in range(chance.randrange(3))]
    boxes = [(chance.choice(NAMES), chance.choice([0, 0, 1, 5, 8]), made_rank(chance)) for k in range(chance.randrange(4))]
    grants = [tuple(chance.choices(NAMES, k=3)) for k in range(chance.randrange(3))]
    functions = []
    for k in range(chance.randrange(3)):
        params = [(chance.choice(NAMES), made_rank(chance)) for j in range(chance.randrange(4))]
        functions.append((chance.choice(NAMES), made_rank(chance), params, made_rows(chance, 2)))
    return (names, pairs, (boxes, grants, functions, made_rows(chance, 4)))
