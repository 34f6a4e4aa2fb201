"""The looker: found ranks, broken rules, and the roads by which a secret comes out."""

from hushwise.programs import head_pairs, numbered
from hushwise.rules import nodes, rules


def told_ranks(order, program):
    """A dict from each told node to its rank."""
    told = {}
    for name, rank in head_pairs(program):
        if rank is not None:
            told[f"box {name}"] = rank
    for k, one in enumerate(numbered(program)):
        row = one[3]
        for who, high, low in program[1]:
            if row[0] == "out" and row[3] == who:
                told[f"let {k}"] = high
                told[f"out {k}"] = low
    return told


def at_first(order, program, told):
    """A dict from each node to its rank in told, or the least rank where it has none there."""
    ranks = {}
    for node in nodes(program):
        ranks[node] = told.get(node, order.least())
    return ranks


def spread(order, start, some):
    """The least ranks that those of start are under and by which the from of each of some rules is under its to."""
    ranks = dict(start)
    grown = True
    while grown:
        grown = False
        for rule in some:
            rank = order.join(ranks[rule[3]], ranks[rule[4]])
            if rank != ranks[rule[4]]:
                ranks[rule[4]] = rank
                grown = True
    return ranks


def found(order, program):
    """A dict from each node to its found rank."""
    told = told_ranks(order, program)
    # A told node hands on its own rank alone, so what comes to it is not followed any further.
    some = [rule for rule in rules(program) if rule[4] not in told]
    return spread(order, at_first(order, program, told), some)


def broken(order, program):
    """The sorted list of the broken rules."""
    ranks = found(order, program)
    return [rule for rule in rules(program) if not order.under(ranks[rule[3]], ranks[rule[4]])]


def lets_by(order, program):
    """Whether a program is let by."""
    return not broken(order, program)


def ways_to(program, told, node):
    """A dict from each told node from which a road leads to an untold one to such a road; of a told one {node: []}."""
    some = rules(program)
    ways = {node: []}
    waiting = [node]
    while waiting:
        reached = waiting.pop(0)
        # No road goes through a told node, so none is looked for behind one.
        for rule in [one for one in some if one[4] == reached and reached not in told]:
            if rule[3] not in ways:
                ways[rule[3]] = [rule] + ways[reached]
                waiting.append(rule[3])
    begins = {}
    for begin, way in ways.items():
        if begin in told:
            begins[begin] = way
    return begins


def road(order, program, rule):
    """A road to a broken rule, or None where the rule is none of the broken ones."""
    if rule not in broken(order, program):
        return None
    told = told_ranks(order, program)
    ways = ways_to(program, told, rule[3])
    # Were each begin under the end's rank, their join, the found rank of the rule's from, would be so too.
    begins = [begin for begin in ways if not order.under(told[begin], told[rule[4]])]
    return ways[begins[0]] + [rule]


def reasons(order, program, node):
    """A list of roads to an untold node whose begins' told ranks join to its found rank; of a told node none."""
    told = told_ranks(order, program)
    if node in told:
        return []
    chosen = {}
    for begin, way in ways_to(program, told, node).items():
        chosen.setdefault(told[begin], way)
    return list(chosen.values())
