"""Nodes of a program, and the rules by which something comes from one to another."""

from hushwise.plans import Plan
from hushwise.programs import expressions_of, head_names, names_in


def nodes(program):
    """The sorted list of a program's nodes."""
    plan = Plan(program)
    told = [f"box {name}" for name in head_names(program)]
    for name in plan.bodies():
        told.extend([f"enter {name}", f"leave {name}"])
    for k in plan.numbers():
        told.append(f"at {k}")
        if plan.row(k)[0] == "out":
            told.extend([f"let {k}", f"out {k}"])
    return sorted(set(told))


def behind(program, k):
    """The sorted list of the nodes behind a row."""
    return sorted(set(behind_row(Plan(program), k)))


def behind_row(plan, k):
    """The nodes behind a row, in any order."""
    row = plan.row(k)
    told = [f"at {k}"]
    if row[0] == "call":
        told.append("leave " + row[2])
    if row[0] == "if":
        for numbers in (plan.block(k, 0), plan.block(k, 1)):
            # A block without such a row comes to its end whatever is left, so nothing behind tells that it was done.
            if plan.spending(numbers):
                told.extend(behind_row(plan, numbers[-1]))
    return told


def rules(program):
    """The sorted list of a program's rules, tuples (row, time, kind, from, to)."""
    plan = Plan(program)
    told = []
    for k in plan.numbers():
        told.extend([(k, 0, kind, source, f"at {k}") for kind, source in begin_sources(plan, k)])
        told.extend([(k, 1, kind, source, target) for kind, source, target in done_steps(plan, k)])
        told.extend([(k, 2, "back", source, target) for source, target in back_steps(plan, k)])
        told.extend([(k, 3, "leave", source, target) for source, target in leave_steps(plan, k)])
    return sorted(set(told))


def boxes_read(expression):
    """The nodes of the boxes read in an expression."""
    return [f"box {name}" for name in names_in(expression)]


def begin_sources(plan, k):
    """Tuples (kind, from) of the rules of time 0."""
    ahead = plan.just_ahead(k)
    told = []
    if ahead is None:
        told.extend(first_sources(plan, k))
    else:
        told.extend([("behind", node) for node in behind_row(plan, ahead)])
    if plan.row(k)[0] == "while":
        told.extend([("turns", node) for node in turn_sources(plan, k)])
    return told


def first_sources(plan, k):
    """Tuples (kind, from) of what leads to a row that is the first one of its body or block."""
    outer = plan.outer(k)
    if outer is None:
        return [("enter", "enter " + plan.home(k))]
    told = [("within", f"at {outer}")]
    row = plan.row(outer)
    if row[0] == "if":
        told.extend([("choice", node) for node in boxes_read(row[1])])
    return told


def turn_sources(plan, k):
    """The nodes on which it hangs whether and when a while is looked at again."""
    numbers = plan.block(k, 0)
    told = boxes_read(plan.row(k)[1])
    if numbers:
        told.extend(behind_row(plan, numbers[-1]))
    return told


def done_steps(plan, k):
    """Tuples (kind, from, to) of the rules of time 1."""
    row = plan.row(k)
    if row[0] == "set" or row[0] == "put":
        return given_steps(k, row[1], expressions_of(row))
    if row[0] == "out":
        told = [("let", node, f"let {k}") for node in boxes_read(row[2])]
        return told + [("out", f"out {k}", "box " + row[1]), ("done", f"at {k}", "box " + row[1])]
    if row[0] == "call":
        told = [("call", f"at {k}", "enter " + row[2])]
        for param, expression in zip(plan.params(row[2]), row[3]):
            told.extend(given_steps(k, param, [expression]))
        return told
    return []


def given_steps(k, name, some):
    """Tuples (kind, from, to) of a row by which a box gets what some expressions come to."""
    told = [("done", f"at {k}", f"box {name}")]
    for expression in some:
        told.extend([("value", node, f"box {name}") for node in boxes_read(expression)])
    return told


def back_steps(plan, k):
    """Tuples (from, to) of the rules of time 2."""
    row = plan.row(k)
    if row[0] != "call":
        return []
    return [(source, "box " + row[1]) for source in ("box " + row[2], f"at {k}", "leave " + row[2])]


def leave_steps(plan, k):
    """Tuples (from, to) of the rules of time 3."""
    home = plan.home(k)
    numbers = plan.body(home)
    if numbers[-1] != k or not plan.spending(numbers):
        return []
    return [(source, f"leave {home}") for source in behind_row(plan, k)]
