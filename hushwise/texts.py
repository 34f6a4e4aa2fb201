"""Texts that tell ranks, pairs and a program by lines."""

from hushwise.errors import NoText
from hushwise.orders import is_name

FIGURES = "0123456789"
SIZES = ("1", "2", "3", "4", "5", "6", "7", "8")
SIGNS = ("+", "-", "*", "<", "=")

# How many names stand behind the word that begins a row's line, ahead of its expressions.
ROW_NAMES = {"set": 1, "put": 1, "out": 2, "call": 2, "if": 0, "while": 0}
# How many expressions follow; a call has as many as it likes.
ROW_EXPRESSIONS = {"set": 1, "put": 2, "out": 1, "if": 1, "while": 1}


class Lines:
    """The lines of a text, each as a list of words, and the number of the next one to be read."""

    def __init__(self, text):
        self.lines = [line.split(" ") for line in text.split("\n")]
        self.at = 0

    def words(self):
        """The words of the next line; behind the last one a word with no signs, which begins no line."""
        if self.at < len(self.lines):
            return list(self.lines[self.at])
        return [""]

    def go_on(self):
        """Go on to the line behind the next one."""
        self.at = self.at + 1

    def take(self, word):
        """Read a line of one told word, or refuse with NoText."""
        if self.words() != [word]:
            raise NoText(self.at)
        self.go_on()

    def take_last(self):
        """Refuse with NoText where there is still a line to be read."""
        if self.at < len(self.lines):
            raise NoText(self.at)


def read(text):
    """The tuple (names, pairs, program) that a text tells; refuses with NoText."""
    lines = Lines(text)
    # Lines that tell nothing of their part are left to the next part, so the last one refuses what fits nowhere.
    names = read_ranks(lines)
    pairs = read_heads(lines, pair_told)
    grants = read_heads(lines, grant_told)
    boxes = read_heads(lines, box_told)
    functions = read_functions(lines)
    rows = read_rows(lines)
    lines.take_last()
    return (names, pairs, (boxes, grants, functions, rows))


def read_ranks(lines):
    """The names of the ranks line."""
    words = lines.words()
    if words[0] != "ranks" or len(words) == 1 or not all_names(words[1:]):
        raise NoText(lines.at)
    lines.go_on()
    return words[1:]


def read_heads(lines, told_by):
    """What the lines tell, one by one, up to the first of which told_by tells None."""
    heads = []
    head = told_by(lines.words())
    while head is not None:
        heads.append(head)
        lines.go_on()
        head = told_by(lines.words())
    return heads


def read_functions(lines):
    """The functions up to the first line that begins none."""
    functions = []
    head = head_told(lines.words())
    while head is not None:
        lines.go_on()
        functions.append(head + (read_block(lines, "end"),))
        head = head_told(lines.words())
    return functions


def read_rows(lines):
    """The rows up to the first line that begins none."""
    rows = []
    row = read_row(lines)
    while row is not None:
        rows.append(row)
        row = read_row(lines)
    return rows


def read_row(lines):
    """The next row with its blocks, or None where the next line begins none."""
    row = row_told(lines.words())
    if row is None:
        return None
    lines.go_on()
    if row[0] == "if":
        first = read_block(lines, "else")
        return row + (first, read_block(lines, "end"))
    if row[0] == "while":
        return row + (read_block(lines, "end"),)
    return row


def read_block(lines, closing):
    """The rows up to the line that closes them."""
    rows = read_rows(lines)
    lines.take(closing)
    return rows


def all_names(words):
    """Whether each of the words is a name."""
    return all([is_name(word) for word in words])


def is_rank(word):
    """Whether a word tells a rank or that it is left to be found."""
    return word == "?" or is_name(word)


def rank_told(word):
    """The rank that a word tells, None where it is left to be found."""
    return None if word == "?" else word


def pair_told(words):
    """The pair that a line tells, or None where it tells none."""
    if words[0] != "under" or len(words) != 3 or not all_names(words):
        return None
    return (words[1], words[2])


def grant_told(words):
    """The grant that a line tells, or None where it tells none."""
    if words[0] != "may" or len(words) != 4 or not all_names(words):
        return None
    return (words[1], words[2], words[3])


def box_told(words):
    """The box that a line tells, or None where it tells none."""
    if words[0] == "box" and len(words) == 3 and is_name(words[1]) and is_rank(words[2]):
        return (words[1], 0, rank_told(words[2]))
    if words[0] != "list" or len(words) != 4 or words[2] not in SIZES:
        return None
    if not is_name(words[1]) or not is_rank(words[3]):
        return None
    return (words[1], int(words[2]), rank_told(words[3]))


def head_told(words):
    """The name, rank and parameters of a function that a line begins, or None where it begins none."""
    names = words[1::2]
    ranks = words[2::2]
    if words[0] != "def" or not names or len(names) != len(ranks):
        return None
    if not all_names(names) or not all([is_rank(word) for word in ranks]):
        return None
    params = [(name, rank_told(word)) for name, word in zip(names[1:], ranks[1:])]
    return (names[0], rank_told(ranks[0]), params)


def row_told(words):
    """The row that a line begins, without blocks, or None where it begins none."""
    if words[0] not in ROW_NAMES:
        return None
    start = 1 + ROW_NAMES[words[0]]
    names = words[1:start]
    some = expressions_told(words[start:])
    if len(words) < start or not all_names(names) or some is None:
        return None
    if words[0] != "call" and len(some) != ROW_EXPRESSIONS[words[0]]:
        return None
    return row_of(words[0], names, some)


def row_of(kind, names, some):
    """The row of a kind, made of its names and expressions in the order of its line."""
    if kind == "out":
        return (kind, names[0], some[0], names[1])
    if kind == "call":
        return (kind, names[0], names[1], some)
    return (kind,) + tuple(names + some)


def is_number(word):
    """Whether a word is a number's figures, as they are written."""
    if not 1 <= len(word) <= 12 or not all([sign in FIGURES for sign in word]):
        return False
    return word == "0" or word[0] != "0"


def expressions_told(words):
    """The list of the expressions that words tell one behind the other, or None where they tell none."""
    # From the last word back, the parts of a sign are there ahead of it, the first part on top.
    parts = []
    for word in reversed(words):
        part = part_told(word, parts)
        if part is None:
            return None
        if word == "@" or word in SIGNS:
            parts = parts[:-2]
        parts.append(part)
    return list(reversed(parts))


def part_told(word, parts):
    """The expression that a word begins ahead of the parts behind it, or None where it begins none."""
    if is_number(word):
        return ("num", int(word))
    if is_name(word):
        return ("box", word)
    if len(parts) < 2:
        return None
    if word == "@" and parts[-1][0] == "box":
        return ("@", parts[-1][1], parts[-2])
    if word in SIGNS:
        return (word, parts[-1], parts[-2])
    return None


def shown(names, pairs, program):
    """The text of names, pairs and a program."""
    lines = [["ranks"] + list(names)]
    lines.extend([["under", low, high] for low, high in pairs])
    lines.extend([["may", who, high, low] for who, high, low in program[1]])
    lines.extend([box_shown(box) for box in program[0]])
    for function in program[2]:
        lines.extend(function_shown(function))
    lines.extend(rows_shown(program[3]))
    return "\n".join([" ".join(words) for words in lines])


def rank_shown(rank):
    """The word that tells a rank."""
    return "?" if rank is None else rank


def box_shown(box):
    """The words of a box's line."""
    if box[1] == 0:
        return ["box", box[0], rank_shown(box[2])]
    return ["list", box[0], str(box[1]), rank_shown(box[2])]


def function_shown(function):
    """The lines of a function, each as a list of words."""
    head = ["def", function[0], rank_shown(function[1])]
    for name, rank in function[2]:
        head.extend([name, rank_shown(rank)])
    return [head] + rows_shown(function[3]) + [["end"]]


def rows_shown(rows):
    """The lines of a list of rows, each as a list of words."""
    lines = []
    for row in rows:
        lines.append(row_shown(row))
        if row[0] == "if":
            lines.extend(rows_shown(row[2]) + [["else"]] + rows_shown(row[3]) + [["end"]])
        if row[0] == "while":
            lines.extend(rows_shown(row[2]) + [["end"]])
    return lines


def row_shown(row):
    """The words of the line that begins a row."""
    if row[0] == "if" or row[0] == "while":
        return [row[0]] + expression_shown(row[1])
    if row[0] == "put":
        return ["put", row[1]] + expression_shown(row[2]) + expression_shown(row[3])
    if row[0] == "out":
        return ["out", row[1], row[3]] + expression_shown(row[2])
    if row[0] == "call":
        words = ["call", row[1], row[2]]
        for expression in row[3]:
            words.extend(expression_shown(expression))
        return words
    return ["set", row[1]] + expression_shown(row[2])


def expression_shown(expression):
    """The words of an expression."""
    if expression[0] == "num":
        return [str(expression[1])]
    if expression[0] == "box":
        return [expression[1]]
    if expression[0] == "@":
        return ["@", expression[1]] + expression_shown(expression[2])
    return [expression[0]] + expression_shown(expression[1]) + expression_shown(expression[2])
