"""Programs: their rows by number, what is read, what spends, and what does not fit an order.

A program is a tuple (boxes, grants, functions, rows); a box (name, size, rank); a grant (who, high, low);
a function (name, rank, params, rows), with params a list of (name, rank).
"""

from hushwise.orders import is_name


def blocks_of(row):
    """The list of a row's blocks; they are the row's own lists."""
    if row[0] == "if":
        return [row[2], row[3]]
    if row[0] == "while":
        return [row[2]]
    return []


def expressions_of(row):
    """The list of the expressions that stand in a row, leaving out its blocks."""
    if row[0] == "if" or row[0] == "while":
        return [row[1]]
    if row[0] == "put":
        return [row[2], row[3]]
    if row[0] == "call":
        return list(row[3])
    return [row[2]]


def copied(row):
    """The same row, with lists of its own at whatever depth."""
    if row[0] == "if":
        return ("if", row[1], all_copied(row[2]), all_copied(row[3]))
    if row[0] == "while":
        return ("while", row[1], all_copied(row[2]))
    if row[0] == "call":
        return ("call", row[1], row[2], list(row[3]))
    return row


def all_copied(rows):
    """A copy of a list of rows, each of them copied."""
    return [copied(row) for row in rows]


def in_order(rows):
    """The rows of a list of rows, at whatever depth, in the order of their numbers."""
    told = []
    for row in rows:
        told.append(row)
        for block in blocks_of(row):
            told.extend(in_order(block))
    return told


def many(rows):
    """How many rows a list of rows has, at whatever depth."""
    return len(in_order(rows))


def laid_out(where, above, block, rows, start):
    """The tuples (where, above, block, row) of a list of rows, the first of which has the number start."""
    told = []
    for row in rows:
        number = start + len(told)
        told.append((where, above, block, copied(row)))
        for place, inner in enumerate(blocks_of(row)):
            told.extend(laid_out(where, number, place, inner, start + len(told)))
    return told


def numbered(program):
    """By its number each row of a program as a tuple (where, above, block, row)."""
    told = []
    for name, rank, params, rows in program[2]:
        told.extend(laid_out(name, None, 0, rows, len(told)))
    told.extend(laid_out("main", None, 0, program[3], len(told)))
    return told


def reads(expression):
    """What is read in an expression: ("box", x) for a box with one number, ("list", r) for a list box."""
    if expression[0] == "num":
        return []
    if expression[0] == "box":
        return [("box", expression[1])]
    if expression[0] == "@":
        return [("list", expression[1])] + reads(expression[2])
    return reads(expression[1]) + reads(expression[2])


def names_in(expression):
    """The sorted list of the names of the boxes read in an expression, each once."""
    return sorted(set([name for word, name in reads(expression)]))


def spends(row):
    """Whether a row is a while or a call, or has one in its blocks."""
    return any([inner[0] in ("while", "call") for inner in in_order([row])])


def head_pairs(program):
    """Tuples (name, rank) of the boxes, functions and parameters, as often as they stand there."""
    told = [(name, rank) for name, size, rank in program[0]]
    for name, rank, params, rows in program[2]:
        told.append((name, rank))
        told.extend([(param, known) for param, known in params])
    return told


def head_names(program):
    """The names of the boxes, functions and parameters, as often as they stand there."""
    return [name for name, rank in head_pairs(program)]


def head_ranks(program):
    """The ranks that the boxes, grants, functions and parameters are told with."""
    ranks = [rank for name, rank in head_pairs(program) if rank is not None]
    for who, high, low in program[1]:
        ranks.extend([high, low])
    return ranks


def granted(program):
    """The who of each grant."""
    return [who for who, high, low in program[1]]


def head_faults(order, program):
    """The faults of the heads, perhaps some of them more than once."""
    names = head_names(program)
    whos = granted(program)
    ranks = order.ranks()
    told = [("name", name) for name in names if name == "main" or not is_name(name)]
    told.extend([("name", who) for who in whos if not is_name(who)])
    told.extend([("twice", name) for name in names if names.count(name) > 1])
    told.extend([("twice", who) for who in whos if whos.count(who) > 1])
    told.extend([("rank", rank) for rank in head_ranks(program) if rank not in ranks])
    told.extend([("size", name) for name, size, rank in program[0] if size < 0 or size > 8])
    return [(-1, word, name) for word, name in told]


def touched(row):
    """What a row reads or gives a value to, told as by reads, leaving out its blocks."""
    told = []
    if row[0] in ("set", "out", "call"):
        told.append(("box", row[1]))
    if row[0] == "put":
        told.append(("list", row[1]))
    for expression in expressions_of(row):
        told.extend(reads(expression))
    return told


def call_faults(functions, row):
    """The faults of a call row that lie in the function it calls, as tuples (word, name)."""
    for name, rank, params, rows in functions:
        if name == row[2]:
            return [] if len(params) == len(row[3]) else [("many", name)]
    return [("call", row[2])]


def row_faults(program, own, row):
    """The faults of a row, as tuples (word, name), in a body in which the names own are known beside the boxes."""
    ones = own + [name for name, size, rank in program[0] if size == 0]
    lists = [name for name, size, rank in program[0] if size != 0]
    told = []
    for word, name in touched(row):
        if name not in (ones if word == "box" else lists):
            told.append((word, name))
    if row[0] == "call":
        told.extend(call_faults(program[2], row))
    if row[0] == "out" and row[3] not in granted(program):
        told.append(("who", row[3]))
    return told


def body_faults(program, own, rows, start):
    """The faults of a body's rows, the first of which has the number start."""
    told = []
    for number, row in enumerate(in_order(rows), start=start):
        told.extend([(number, word, name) for word, name in row_faults(program, own, row)])
    return told


def faults(order, program):
    """The sorted list of a program's faults, held against an order, as tuples (number, word, name)."""
    told = head_faults(order, program)
    start = 0
    # Two functions may bear one name, or the name main, so each body is held against its very own head.
    for name, rank, params, rows in program[2]:
        own = [name] + [param for param, known in params]
        told.extend(body_faults(program, own, rows, start))
        start = start + many(rows)
    told.extend(body_faults(program, [], program[3], start))
    return sorted(set(told))
