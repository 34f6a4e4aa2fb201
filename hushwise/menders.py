"""Menders: programs that are hushed or raised so that they are let by."""

from hushwise.looker import at_first, broken, spread, told_ranks
from hushwise.programs import all_copied, copied, head_pairs, many
from hushwise.rules import rules


def hushed(order, program):
    """The program in which each row by whose number there is a broken rule is made one that does nothing."""
    loud = [rule[0] for rule in broken(order, program)]
    functions = []
    start = 0
    for name, rank, params, rows in program[2]:
        functions.append((name, rank, list(params), hushed_rows(loud, rows, start)))
        start = start + many(rows)
    return (list(program[0]), list(program[1]), functions, hushed_rows(loud, program[3], start))


def hushed_rows(loud, rows, start):
    """A list of rows, the first of which has the number start, with those by the numbers of loud hushed."""
    told = []
    number = start
    for row in rows:
        told.append(hushed_row(loud, row, number))
        number = number + many([row])
    return told


def hushed_row(loud, row, number):
    """The row by a number, hushed where that is one of loud, and with its blocks hushed."""
    if number in loud:
        return ("if", ("num", 0), [], [])
    if row[0] == "if":
        first = hushed_rows(loud, row[2], number + 1)
        return ("if", row[1], first, hushed_rows(loud, row[3], number + 1 + many(row[2])))
    if row[0] == "while":
        return ("while", row[1], hushed_rows(loud, row[2], number + 1))
    return copied(row)


def raised(order, program):
    """The program with its told ranks raised as little as will do, or None where no raising will do."""
    some = rules(program)
    start = at_first(order, program, told_ranks(order, program))
    # Rules of the kind let alone lead to a let node, and none leads to an out node, so these keep their told ranks.
    ranks = spread(order, start, [rule for rule in some if rule[2] != "let"])
    for rule in some:
        if not order.under(ranks[rule[3]], ranks[rule[4]]):
            return None
    return with_ranks(program, ranks)


def with_ranks(program, ranks):
    """The program in which each told rank of a box, function or parameter is that of its node in ranks."""
    known = {}
    for name, rank in head_pairs(program):
        known[name] = None if rank is None else ranks[f"box {name}"]
    boxes = [(name, size, known[name]) for name, size, rank in program[0]]
    functions = []
    for name, rank, params, rows in program[2]:
        functions.append((name, known[name], [(param, known[param]) for param, old in params], all_copied(rows)))
    return (boxes, list(program[1]), functions, all_copied(program[3]))
