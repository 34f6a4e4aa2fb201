"""What several tests need: a sample with its text, made-up orders and programs, and a look for shared lists."""

import copy

from hushwise.orders import Order
from hushwise.rules import rules
from hushwise.texts import read

SAMPLE_TEXT = """ranks low mid high
under low mid
under mid high
may ann high low
may bob mid low
box a low
box s high
list r 8 ?
list q 1 mid
box end ?
def f low x high y ?
set f + x y
if < f 3
put r f 1
else
end
end
def g ?
end
set a 0
put r @ q 0 * 2 a
out a bob - s 999999999999
call a g
call end f @ r end = a s
if a
while s
if 1
set a 1
else
while 0
end
end
end
else
set s 7
end
while 0
end"""

SAMPLE_NAMES = ["low", "mid", "high"]

SAMPLE_PAIRS = [("low", "mid"), ("mid", "high")]

# The first lines of texts.
CHAIN = ("ranks low mid high", "under low mid", "under mid high", "may ann high low", "may bob mid low")

DIAMOND = ("ranks top left right least", "under least left", "under least right", "under left top", "under right top")


def num(n):
    return ("num", n)


def box(x):
    return ("box", x)


def sample_program():
    """The program of SAMPLE_TEXT, each time of new lists."""
    boxes = [("a", 0, "low"), ("s", 0, "high"), ("r", 8, None), ("q", 1, "mid"), ("end", 0, None)]
    grants = [("ann", "high", "low"), ("bob", "mid", "low")]
    f_rows = [
        ("set", "f", ("+", box("x"), box("y"))),
        ("if", ("<", box("f"), num(3)), [("put", "r", box("f"), num(1))], []),
    ]
    functions = [("f", "low", [("x", "high"), ("y", None)], f_rows), ("g", None, [], [])]
    inner = ("if", num(1), [("set", "a", num(1))], [("while", num(0), [])])
    rows = [
        ("set", "a", num(0)),
        ("put", "r", ("@", "q", num(0)), ("*", num(2), box("a"))),
        ("out", "a", ("-", box("s"), num(999999999999)), "bob"),
        ("call", "a", "g", []),
        ("call", "end", "f", [("@", "r", box("end")), ("=", box("a"), box("s"))]),
        ("if", box("a"), [("while", box("s"), [inner])], [("set", "s", num(7))]),
        ("while", num(0), []),
    ]
    return (boxes, grants, functions, rows)


def made_of(*lines):
    """The order and the program of a text's lines."""
    names, pairs, program = read("\n".join(lines))
    return (Order(names, pairs), program)


def program_of(*lines):
    """The program of lines behind those of a low and a high rank, and of ann, who may let out anything."""
    return made_of("ranks low high", "under low high", "may ann high low", *lines)[1]


def lists_in(told):
    """Every list and dict within what is told, itself too, each as often as it stands there."""
    found = []
    if isinstance(told, (list, dict)):
        found.append(told)
    if isinstance(told, dict):
        told = list(told.values())
    if isinstance(told, (list, tuple)):
        for part in told:
            found.extend(lists_in(part))
    return found


def spoil(told):
    """Change every list and dict within what is told."""
    for one in lists_in(told):
        if isinstance(one, dict):
            one.clear()
            one["spoilt"] = "spoilt"
        else:
            one.append("spoilt")


def own_lists(case, told, *handed):
    """Each place of what is told holds a list of its own, and none of those handed in."""
    places = [id(one) for one in lists_in(told)]
    case.assertEqual(len(places), len(set(places)))
    case.assertEqual(set(places) & {id(one) for one in lists_in(handed)}, set())


def keeps_to_itself(case, ask, *handed):
    """Asking changes nothing that is handed in, and spoiling what is told changes no later answer."""
    before = copy.deepcopy(handed)
    told = ask(*handed)
    case.assertEqual(handed, before)
    own_lists(case, told, *handed)
    kept = copy.deepcopy(told)
    spoil(told)
    case.assertEqual(handed, before)
    case.assertEqual(ask(*handed), kept)


NAMES = ["a", "b", "end", "else", "if", "set", "ranks", "under", "box", "list", "def", "abcdefgh", "main"]

NUMBERS = [0, 1, 9, 10, 100, 999999999999]


def made_expression(chance, deep):
    kind = chance.choice(["num", "box", "@", "+", "-", "*", "<", "="]) if deep > 1 else chance.choice(["num", "box"])
    if kind == "num":
        return num(chance.choice(NUMBERS))
    if kind == "box":
        return box(chance.choice(NAMES))
    if kind == "@":
        return ("@", chance.choice(NAMES), made_expression(chance, deep - 1))
    return (kind, made_expression(chance, deep - 1), made_expression(chance, deep - 1))


def made_row(chance, deep):
    kind = chance.choice(["set", "put", "out", "call", "if", "while"] if deep else ["set", "put", "out", "call"])
    one, other, x, y = [made_expression(chance, 3), made_expression(chance, 3)] + chance.choices(NAMES, k=2)
    if kind == "set":
        return ("set", x, one)
    if kind == "put":
        return ("put", x, one, other)
    if kind == "out":
        return ("out", x, one, y)
    if kind == "call":
        return ("call", x, y, [made_expression(chance, 2) for k in range(chance.randrange(4))])
    if kind == "while":
        return ("while", one, made_rows(chance, deep - 1))
    return ("if", one, made_rows(chance, deep - 1), made_rows(chance, deep - 1))


def made_rows(chance, deep):
    return [made_row(chance, deep) for k in range(chance.randrange(3))]


def made_rank(chance):
    return chance.choice(NAMES + [None] * 5)


def made_telling(chance):
    """Names, pairs and a program that may have any faults but names that are none."""
    names = chance.choices(NAMES, k=chance.randrange(1, 4))
    pairs = [tuple(chance.choices(NAMES, k=2)) for k in range(chance.randrange(3))]
    boxes = [(chance.choice(NAMES), chance.choice([0, 0, 1, 5, 8]), made_rank(chance)) for k in range(chance.randrange(4))]
    grants = [tuple(chance.choices(NAMES, k=3)) for k in range(chance.randrange(3))]
    functions = []
    for k in range(chance.randrange(3)):
        params = [(chance.choice(NAMES), made_rank(chance)) for j in range(chance.randrange(4))]
        functions.append((chance.choice(NAMES), made_rank(chance), params, made_rows(chance, 2)))
    return (names, pairs, (boxes, grants, functions, made_rows(chance, 4)))


ORDERS = [
    (["one"], []),
    (["low", "high"], [("low", "high"), ("high", "high")]),
    (SAMPLE_NAMES, SAMPLE_PAIRS),
    (["top", "left", "right", "least"], [("least", "left"), ("least", "right"), ("left", "top"), ("right", "top")]),
    (["o", "a", "b", "c", "i"], [("o", "a"), ("a", "b"), ("b", "i"), ("o", "c"), ("c", "i")]),
    (["o", "a", "b", "c", "ab", "ac", "bc", "abc"],
     [("o", "a"), ("o", "b"), ("o", "c"), ("a", "ab"), ("a", "ac"), ("b", "ab"), ("b", "bc"), ("c", "ac"), ("c", "bc"),
      ("ab", "abc"), ("ac", "abc"), ("bc", "abc")]),
]


class Maker:
    """Makes up programs that have no faults, of names that are also words of the program's texts and kinds."""

    def __init__(self, chance, ranks):
        self.chance = chance
        self.ranks = ranks
        self.names = list("abcdefghijklmnopqrstuvwxyz") + ["num", "box", "set", "end", "enter", "leave", "out", "let"]
        chance.shuffle(self.names)

    def rank(self, told):
        """A rank, or None as often as the share of told ones leaves it."""
        return self.chance.choice(self.ranks) if self.chance.random() < told else None

    def program(self, told=0.5):
        counts = [self.chance.randrange(count) for count in (5, 3, 3, 4)]
        ones = [(self.names.pop(), 0, self.rank(told)) for k in range(counts[0])]
        lists = [(self.names.pop(), self.chance.choice([1, 2, 8]), self.rank(told)) for k in range(counts[1])]
        boxes = ones + lists
        self.chance.shuffle(boxes)
        grants = [(self.names[k], self.chance.choice(self.ranks), self.chance.choice(self.ranks)) for k in range(counts[2])]
        heads = []
        for k in range(counts[3]):
            params = [(self.names.pop(), self.rank(told)) for j in range(self.chance.choice([0, 1, 1, 2, 4]))]
            heads.append((self.names.pop(), self.rank(told), params))
        self.lists = [name for name, size, rank in lists]
        self.whos = [grant[0] for grant in grants]
        self.heads = heads
        ones = [name for name, size, rank in ones]
        functions = []
        for name, rank, params in heads:
            functions.append((name, rank, params, self.rows(ones + [name] + [one[0] for one in params], 2)))
        return (boxes, grants, functions, self.rows(ones, 3))

    def expression(self, ones, deep):
        kind = self.chance.choice(["num", "box", "box"] + ["@", "+", "-", "*", "<", "="] * (deep > 1))
        if kind == "box" and ones:
            return box(self.chance.choice(ones))
        if kind == "@" and self.lists:
            return ("@", self.chance.choice(self.lists), self.expression(ones, deep - 1))
        if kind in ("num", "box", "@"):
            return num(self.chance.choice([0, 0, 1, 2, 7, 999999999999]))
        return (kind, self.expression(ones, deep - 1), self.expression(ones, deep - 1))

    def rows(self, ones, deep):
        return [self.row(ones, deep) for k in range(self.chance.randrange(4))]

    def row(self, ones, deep):
        """A row of a kind for which there is what it needs, a block without rows where there is nothing."""
        kind = self.chance.choice(["set", "put", "out", "call", "if", "while"])
        guard = self.expression(ones, 3)
        if kind == "put" and self.lists:
            return ("put", self.chance.choice(self.lists), self.expression(ones, 2), guard)
        if kind == "out" and self.whos and ones:
            return ("out", self.chance.choice(ones), guard, self.chance.choice(self.whos))
        if kind == "call" and self.heads and ones:
            name, rank, params = self.chance.choice(self.heads)
            return ("call", self.chance.choice(ones), name, [self.expression(ones, 2) for param in params])
        if kind == "while":
            return ("while", guard, self.rows(ones, deep - 1) if deep else [])
        if kind == "if" or not ones:
            return ("if", guard, self.rows(ones, deep - 1) if deep else [], self.rows(ones, deep - 1) if deep else [])
        return ("set", self.chance.choice(ones), guard)

    def values(self, program):
        """An input of a program."""
        numbers = [0, 0, 1, 2, 3, 7, 8, 999999999999]
        return [self.chance.choice(numbers) if size == 0 else self.chance.choices(numbers, k=size)
                for name, size, rank in program[0]]


class Busy(Maker):
    """Makes up programs in which much is done, many an out among it, by whoever may let out all."""

    def __init__(self, chance, order):
        Maker.__init__(self, chance, order.ranks())
        self.all = (order.greatest(), order.least())

    def program(self, told=0.5):
        ones = [self.names.pop() for k in range(4)]
        self.lists = [self.names.pop()]
        self.whos = ["who", "who", "any"]
        self.heads = [(self.names.pop(), self.rank(told), [(self.names.pop(), self.rank(told))]) for k in range(2)]
        boxes = [(name, 0, self.rank(told)) for name in ones] + [(self.lists[0], 2, self.rank(told))]
        grants = [("who",) + self.all, ("any", self.chance.choice(self.ranks), self.chance.choice(self.ranks))]
        functions = [head + (self.rows(ones + [head[0], head[2][0][0]], 1),) for head in self.heads]
        return (boxes, grants, functions, self.rows(ones, 2))

    def rows(self, ones, deep):
        outs = [("out", self.chance.choice(ones), self.expression(ones, 2), "who") for k in range(self.chance.randrange(2))]
        return outs + [self.row(ones, deep) for k in range(self.chance.randrange(1, 4))]

    def values(self, program):
        return [self.chance.randrange(3) if size == 0 else self.chance.choices([0, 1, 2], k=size)
                for name, size, rank in program[0]]


def made_up(chance, told=0.5, busy=False):
    """An order, a program that fits it, with a share of told ranks, and its maker."""
    names, pairs = chance.choice(ORDERS)
    order = Order(names, pairs)
    maker = Busy(chance, order) if busy else Maker(chance, names)
    return order, maker.program(told), maker


def is_road(case, program, told, way):
    """That a list of rules is a road of a program with such told nodes."""
    case.assertIsInstance(way, list)
    case.assertTrue(way)
    case.assertLessEqual(set(way), set(rules(program)))
    for one, following in zip(way, way[1:]):
        case.assertEqual(one[4], following[3])
    met = [rule[4] for rule in way]
    case.assertIn(way[0][3], told)
    case.assertFalse(set(met[:-1]) & set(told))
    case.assertEqual(len(met), len(set(met)))
    case.assertNotIn(way[0][3], met[:-1])
