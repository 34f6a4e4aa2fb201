import random
import re
import unittest

from helpers import box, keeps_to_itself, made_telling, num, own_lists, sample_program, spoil
from helpers import SAMPLE_NAMES, SAMPLE_PAIRS, SAMPLE_TEXT
from hushwise.errors import NoText
from hushwise.texts import read, shown

NAME = r"[a-z]{1,8}"
RANK = rf"(?:\?|{NAME})"
SHAPES = [
    ("ranks", rf"ranks(?: {NAME})+"),
    ("under", rf"under {NAME} {NAME}"),
    ("may", rf"may {NAME} {NAME} {NAME}"),
    ("box", rf"box {NAME} {RANK}|list {NAME} [1-8] {RANK}"),
    ("def", rf"def {NAME} {RANK}(?: {NAME} {RANK})*"),
    ("else", "else"),
    ("end", "end"),
]
ROWS = [("row", rf"set {NAME}", 1), ("row", rf"put {NAME}", 2), ("row", rf"out {NAME} {NAME}", 1),
        ("row", rf"call {NAME} {NAME}", None), ("if", "if", 1), ("while", "while", 1)]


def expression_ends(words, at):
    """Behind which place the expression that begins at a place ends, None where none begins there."""
    if at >= len(words):
        return None
    if re.fullmatch(rf"0|[1-9][0-9]{{0,11}}|{NAME}", words[at]):
        return at + 1
    if words[at] == "@":
        fits = at + 1 < len(words) and re.fullmatch(NAME, words[at + 1])
        return expression_ends(words, at + 2) if fits else None
    if words[at] in ("+", "-", "*", "<", "="):
        middle = expression_ends(words, at + 1)
        return None if middle is None else expression_ends(words, middle)
    return None


def expressions(words):
    """How many expressions the words tell, None where they tell none."""
    at = 0
    count = 0
    while at is not None and at < len(words):
        at = expression_ends(words, at)
        count += 1
    return None if at is None else count


def sort_of_line(line):
    for sort, shape in SHAPES:
        if re.fullmatch(shape, line):
            return sort
    for sort, shape, wanted in ROWS:
        head = re.match(shape + r"(?= |\Z)", line)
        if head:
            rest = line[head.end():]
            count = expressions(rest[1:].split(" ")) if rest else 0
            if count is not None and wanted in (None, count):
                return sort
    return None


def misfit(text):
    """The number that NoText is to bear, None where the text fits; line by line, by what may still come."""
    parts = {"": ["ranks"], "ranks": ["under", "may", "box", "def", "row"], "under": ["under", "may", "box", "def", "row"],
             "may": ["may", "box", "def", "row"], "box": ["box", "def", "row"], "def": ["def", "row"], "row": ["row"]}
    part = ""
    still = []
    lines = text.split("\n")
    for number, line in enumerate(lines):
        sort = sort_of_line(line)
        if sort in ("row", "if", "while"):
            if not still and "row" not in parts[part]:
                return number
            part = part if still else "row"
            still = still + {"row": [], "if": ["if"], "while": ["end"]}[sort]
        elif sort == "else" and still and still[-1] == "if":
            still = still[:-1] + ["end"]
        elif sort == "end" and still and still[-1] == "end":
            still = still[:-1]
        elif sort in ("ranks", "under", "may", "box", "def") and not still and sort in parts[part]:
            part = sort
            still = ["end"] if sort == "def" else []
        else:
            return number
    return len(lines) if still else None


def line_refused(text):
    """The line with which a text is refused, None where it is read."""
    try:
        read(text)
    except NoText as refusal:
        return refusal.line
    return None


class Sample(unittest.TestCase):
    def test_read(self):
        self.assertEqual(read(SAMPLE_TEXT), (SAMPLE_NAMES, SAMPLE_PAIRS, sample_program()))

    def test_shown(self):
        self.assertEqual(shown(SAMPLE_NAMES, SAMPLE_PAIRS, sample_program()), SAMPLE_TEXT)

    def test_kinds(self):
        names, pairs, program = read(SAMPLE_TEXT)
        self.assertIsInstance(names, list)
        self.assertIsInstance(pairs, list)
        self.assertIsInstance(program, tuple)
        for part in program:
            self.assertIsInstance(part, list)


class EachSortOfLine(unittest.TestCase):
    def both_ways(self, text, told):
        self.assertEqual(read(text), told)
        self.assertEqual(shown(*told), text)

    def main_row(self, lines, row):
        self.both_ways("ranks a\n" + lines, (["a"], [], ([], [], [], [row])))

    def test_ranks(self):
        self.both_ways("ranks a", (["a"], [], ([], [], [], [])))
        self.both_ways("ranks b abcdefgh a", (["b", "abcdefgh", "a"], [], ([], [], [], [])))

    def test_under(self):
        self.both_ways("ranks a\nunder b a\nunder a a", (["a"], [("b", "a"), ("a", "a")], ([], [], [], [])))

    def test_may(self):
        self.both_ways("ranks a\nmay w b a\nmay v c d", (["a"], [], ([], [("w", "b", "a"), ("v", "c", "d")], [], [])))

    def test_boxes(self):
        text = "ranks a\nbox x a\nlist l 1 ?\nbox y ?\nlist m 8 b\nlist n 5 ?"
        boxes = [("x", 0, "a"), ("l", 1, None), ("y", 0, None), ("m", 8, "b"), ("n", 5, None)]
        self.both_ways(text, (["a"], [], (boxes, [], [], [])))

    def test_each_size(self):
        for size in range(1, 9):
            self.both_ways(f"ranks a\nlist l {size} ?", (["a"], [], ([("l", size, None)], [], [], [])))

    def test_functions(self):
        text = "ranks a\ndef f ?\nend\ndef g a x ? y b z ?\nset g x\nend"
        functions = [("f", None, [], []),
                     ("g", "a", [("x", None), ("y", "b"), ("z", None)], [("set", "g", box("x"))])]
        self.both_ways(text, (["a"], [], ([], [], functions, [])))

    def test_rows(self):
        self.main_row("set x 0", ("set", "x", num(0)))
        self.main_row("put r x 12", ("put", "r", box("x"), num(12)))
        self.main_row("out x who y", ("out", "x", box("y"), "who"))
        self.main_row("call x f", ("call", "x", "f", []))
        self.main_row("call x f + 1 2 y @ r 0", ("call", "x", "f", [("+", num(1), num(2)), box("y"), ("@", "r", num(0))]))
        self.main_row("if x\nelse\nend", ("if", box("x"), [], []))
        self.main_row("if x\nset y 1\nelse\nset y 2\nend",
                      ("if", box("x"), [("set", "y", num(1))], [("set", "y", num(2))]))
        self.main_row("while < x 3\nend", ("while", ("<", box("x"), num(3)), []))
        self.main_row("while x\nset y 1\nset z 2\nend",
                      ("while", box("x"), [("set", "y", num(1)), ("set", "z", num(2))]))

    def test_expressions(self):
        self.main_row("set x + a * 2 b", ("set", "x", ("+", box("a"), ("*", num(2), box("b")))))
        self.main_row("set x - * 2 a b", ("set", "x", ("-", ("*", num(2), box("a")), box("b"))))
        self.main_row("set x = @ r @ q 1 @ r < 0 y", ("set", "x", (
            "=", ("@", "r", ("@", "q", num(1))), ("@", "r", ("<", num(0), box("y"))))))
        self.main_row("put r @ q + 1 x - 3 2", ("put", "r", (
            "@", "q", ("+", num(1), box("x"))), ("-", num(3), num(2))))
        self.main_row("set x + + + + + 1 2 3 4 5 6", ("set", "x", ("+", ("+", ("+", ("+", (
            "+", num(1), num(2)), num(3)), num(4)), num(5)), num(6))))

    def test_numbers(self):
        for n in (0, 1, 9, 10, 105, 100000000000, 999999999999):
            self.main_row(f"set x {n}", ("set", "x", num(n)))

    def test_blocks_four_deep(self):
        lines = "while a\nif b\nelse\nwhile c\nif d\nset x 1\nelse\nend\nset x 2\nend\nend\nend"
        fourth = ("if", box("d"), [("set", "x", num(1))], [])
        third = ("while", box("c"), [fourth, ("set", "x", num(2))])
        self.main_row(lines, ("while", box("a"), [("if", box("b"), [], [third])]))

    def test_names_that_begin_lines(self):
        text = ("ranks ranks under may\nunder under may\nmay may may ranks\nbox box box\nlist list 2 list\n"
                "def def def end end else ?\nset set set\nend\nput put put if\nout out out out\ncall call call call else\n"
                "if if\nelse\nend\nwhile while\nend")
        told = (["ranks", "under", "may"], [("under", "may")], (
            [("box", 0, "box"), ("list", 2, "list")], [("may", "may", "ranks")],
            [("def", "def", [("end", "end"), ("else", None)], [("set", "set", box("set"))])],
            [("put", "put", box("put"), box("if")), ("out", "out", box("out"), "out"),
             ("call", "call", "call", [box("call"), box("else")]), ("if", box("if"), [], []),
             ("while", box("while"), [])]))
        self.both_ways(text, told)

    def test_of_names_nothing_more_is_looked_at(self):
        text = ("ranks a a\nunder x y\nunder y x\nmay w p q\nmay w p q\nbox b odd\nbox b odd\nlist b 3 odd\n"
                "def main z b odd\nend\ndef main z\nend\nset nobody nothing\nput b b b\nout r nobody b\n"
                "call q nowhere 1 2 3 4 5 6 7")
        self.assertEqual(shown(*read(text)), text)


class NotFitting(unittest.TestCase):
    def refused(self, line, text):
        self.assertEqual(line_refused(text), line, text)

    def test_ranks(self):
        for first in ("", " ", "ranks", "ranks ", "rank a", "Ranks a", " ranks a", "ranks  a", "ranks a ", "ranks a  b",
                      "ranks A", "ranks a1", "ranks abcdefghi", "ranks ?", "ranks a ?", "ranks 1", "a", "set a 1",
                      "box a a", "end", "ranks\ta"):
            self.refused(0, first)
            self.refused(0, first + "\nset x 1\nnonsense")

    def test_heads(self):
        for line in ("under", "under a", "under a b c", "under a ?", "under ? a", "under a  b", "under a b ", "under A b",
                     "may", "may a b", "may a b c d", "may ? a b", "may a ? b", "may a b ?", "may a b 1",
                     "box", "box a", "box a b c", "box ? a", "box a 1", "box a ??", "box A ?", "box a  ?", "box a 0 ?",
                     "list", "list a", "list a 1", "list a ? 1", "list a 0 ?", "list a 9 ?", "list a 12 ?", "list a 01 ?",
                     "list a 1 ? ?", "list ? 1 a", "list a b ?", "list a  ?", "list a 1 1", "list a -1 ?", "list A 1 ?",
                     "ranks a", "ranks", "", " ", "nonsense", "?", "UNDER a b"):
            self.refused(1, "ranks a\n" + line)
            self.refused(1, "ranks a\n" + line + "\nset x 1")
            self.refused(2, "ranks a\nunder a a\n" + line)

    def test_def(self):
        for line in ("def", "def f", "def f a x", "def f ? x ? y", "def ? a", "def f 1", "def F ?", "def f ? ? x", "def f ? x 1",
                     "def f  ?", "def f ? ", "def f ?  x ?", "def f a x a y"):
            self.refused(1, "ranks a\n" + line + "\nend")

    def test_rows(self):
        for line in ("set", "set x", "set x ", "set x 1 2", "set 1 1", "set ? 1", "set x ?", "set X 1", "set  x 1", "set x  1",
                     "set x 1 ", " set x 1", "set x y z", "set x +", "set x + 1", "set x + 1 2 3", "set x 1 + 2", "set x @",
                     "set x @ r", "set x @ 1 1", "set x @ @ r 1 2", "set x @ + 1 2", "set x @ r 1 2", "set x r @ 1",
                     "set x / 1 2", "set x > 1 2", "set x == 1 2", "set x ++ 1 2", "set x +1", "set x -1", "set x - 1",
                     "set x + 1 -", "set x abcdefghi", "set x 1a", "set x a1",
                     "put", "put r", "put r 1", "put r 1 2 3", "put 1 1 1", "put r + 1 2", "put r @ q 1", "put ? 1 1",
                     "out", "out x", "out x w", "out x w 1 2", "out x 1 w", "out x 1", "out ? w 1", "out x ? 1", "out 1 w 1",
                     "call", "call x", "call x 1", "call 1 f", "call x f +", "call x f + 1", "call x f 1 ?", "call x f ",
                     "call x f  1", "call x f 1 + 2", "call ? f", "call x ?", "call x f @ 1 r",
                     "if", "if 1 2", "if ?", "if  1", "if 1 ", "if + 1", "while", "while 1 2", "while ?", "while -", "IF 1",
                     "else", "end", "else ", "end ", " end", "end end", "fi", "set\tx 1", "", " "):
            self.refused(1, "ranks a\n" + line)
            self.refused(2, "ranks a\nset x 1\n" + line + "\nelse\nend")
            self.refused(4, "ranks a\ndef f ?\nend\nset y 1\n" + line + "\nend")

    def test_numbers(self):
        for number in ("00", "01", "000", "0123", "1000000000000", "0000000000000", "9999999999999", "1_0", "+1", "-0",
                       "1.0", "0x1", "1e3", "\u0663", "\u00b2", "\u0967"):
            self.refused(1, f"ranks a\nset x {number}")
            self.refused(1, f"ranks a\ncall x f 1 {number} 2")

    def test_line_ends_ahead_behind_and_between(self):
        self.refused(1, "ranks a\n")
        self.refused(0, "\nranks a")
        self.refused(1, "ranks a\n\nset x 1")
        self.refused(2, "ranks a\nset x 1\n")
        self.refused(2, "ranks a\nwhile 1\n\nend")
        self.refused(0, "ranks a\r\nset x 1")
        self.refused(0, "ranks a\rset x 1")
        self.refused(0, "ranks a\x0bset x 1")

    def test_parts_out_of_order(self):
        parts = ["under a a", "may w a a", "box x ?", "def f ?\nend", "set x 1"]
        for late in range(5):
            for early in range(late):
                text = "ranks a\n" + parts[late] + "\n" + parts[early]
                self.refused(text.count("\n", 0, len("ranks a\n" + parts[late])) + 1, text)
        self.refused(2, "ranks a\nlist x 2 ?\nmay w a a")
        self.refused(3, "ranks a\ndef f ?\nend\nlist x 2 ?")

    def test_functions_and_blocks_out_of_place(self):
        self.refused(2, "ranks a\ndef f ?\ndef g ?\nend\nend")
        self.refused(2, "ranks a\ndef f ?\nelse\nend")
        self.refused(3, "ranks a\ndef f ?\nend\nend")
        self.refused(2, "ranks a\ndef f ?\nbox x ?\nend")
        self.refused(2, "ranks a\nwhile 1\ndef f ?\nend\nend")
        self.refused(2, "ranks a\nif 1\nend")
        self.refused(3, "ranks a\nif 1\nelse\nelse\nend")
        self.refused(2, "ranks a\nwhile 1\nelse\nend")
        self.refused(4, "ranks a\nif 1\nelse\nend\nend")
        self.refused(4, "ranks a\nif 1\nelse\nend\nelse")
        self.refused(3, "ranks a\nif 1\nwhile 1\nelse\nend\nend")
        self.refused(4, "ranks a\ndef f ?\nif 1\nset x 1\nend")
        self.refused(2, "ranks a\nif 1\nunder a a\nelse\nend")

    def test_more_lines_are_needed(self):
        self.refused(2, "ranks a\nif 1")
        self.refused(3, "ranks a\nif 1\nset x 1")
        self.refused(3, "ranks a\nif 1\nelse")
        self.refused(4, "ranks a\nif 1\nelse\nset x 1")
        self.refused(2, "ranks a\nwhile 1")
        self.refused(4, "ranks a\nwhile 1\nif 1\nelse")
        self.refused(5, "ranks a\nwhile 1\nif 1\nelse\nend")
        self.refused(2, "ranks a\ndef f ?")
        self.refused(3, "ranks a\ndef f ?\nset f 1")
        self.refused(4, "ranks a\ndef f ?\nwhile 1\nend")

    def test_the_first_of_several(self):
        self.refused(2, "ranks a\nset x 1\nset x\nset y\nend")
        self.refused(3, "ranks a\nwhile 1\nset x 1\nset\nwhile 1")

    def test_beginnings_of_the_sample(self):
        lines = SAMPLE_TEXT.split("\n")
        for count in range(1, len(lines)):
            text = "\n".join(lines[:count])
            self.assertIn(line_refused(text), (None, count))
            self.refused(count, text + "\nranks a")
            self.refused(count, text + "\n")


class MadeUp(unittest.TestCase):
    def test_shown_and_read_again(self):
        chance = random.Random(1)
        for turn in range(500):
            told = made_telling(chance)
            text = shown(*told)
            self.assertEqual(read(text), told)
            self.assertIsNone(misfit(text))

    def test_texts_with_something_changed(self):
        chance = random.Random(2)
        refused = 0
        for turn in range(6000):
            text = self.changed(chance, shown(*made_telling(chance)))
            line = line_refused(text)
            self.assertEqual(line, misfit(text), text)
            if line is None:
                self.assertEqual(shown(*read(text)), text)
            else:
                refused += 1
        self.assertGreater(refused, 2000)
        self.assertGreater(6000 - refused, 300)

    def changed(self, chance, text):
        lines = [line.split(" ") for line in text.split("\n")]
        one = chance.randrange(len(lines))
        other = chance.randrange(len(lines))
        way = chance.randrange(6)
        if way == 0:
            lines[one], lines[other] = lines[other], lines[one]
        elif way == 1:
            lines.insert(one, lines[other])
        elif way == 2:
            lines.pop(one)
        elif way == 3:
            words = lines[one]
            words[chance.randrange(len(words))] = chance.choice(["", "?", "0", "9", "00", "@", "+", "a", "end", "A", "abcdefghi"])
        elif way == 4:
            lines[one].insert(chance.randrange(len(lines[one]) + 1), chance.choice(["", "?", "0", "@", "=", "b", "list"]))
        else:
            lines[one].pop(chance.randrange(len(lines[one])))
        return "\n".join(" ".join(words) for words in lines)


class Own(unittest.TestCase):
    def test_what_is_read(self):
        keeps_to_itself(self, read, SAMPLE_TEXT)
        keeps_to_itself(self, read, "ranks a\nif 1\nelse\nend\nwhile 1\nend\ncall x f\ncall x f")

    def test_what_is_shown(self):
        keeps_to_itself(self, shown, SAMPLE_NAMES[:], SAMPLE_PAIRS[:], sample_program())

    def test_made_up(self):
        chance = random.Random(4)
        for turn in range(100):
            told = made_telling(chance)
            keeps_to_itself(self, shown, *told)
            again = read(shown(*told))
            own_lists(self, again, told)
            spoil(again)
            self.assertEqual(read(shown(*told)), told)


if __name__ == "__main__":
    unittest.main()
