"""Runs that carry ranks along, and the own roads among the rules that they met."""

from hushwise.looker import at_first, told_ranks
from hushwise.rules import rules
from hushwise.runner import emptied, filled, gone_through, record_of


class Carrying:
    """Ranks on their way through a run: what each node carries, and the rules met so far."""

    def __init__(self, order, program):
        told = told_ranks(order, program)
        self.order = order
        self.told = told
        self.carries = at_first(order, program, told)
        self.met = []

    def go_by(self, rule):
        """Meet a rule; whether the run goes on behind it."""
        self.met.append(rule)
        rank = self.carries[rule[3]]
        if rule[4] in self.told:
            return self.order.under(rank, self.told[rule[4]])
        self.carries[rule[4]] = self.order.join(self.carries[rule[4]], rank)
        return True

    def go_by_all(self, some):
        """Meet rules one by one, up to the first at which the run stops; whether it goes on behind all of them."""
        for rule in some:
            if not self.go_by(rule):
                return False
        return True


def rules_by_moment(program):
    """A dict from tuples (row, time) to the lists of their rules, each in the order of the sorted rules."""
    lists = {}
    for rule in rules(program):
        lists.setdefault(rule[:2], []).append(rule)
    return lists


def values_behind(program, values, record):
    """What the boxes hold behind the events of a record that begins with an input, as an input tells it."""
    boxes = filled(program, values)
    for row, name, place, value in record:
        # Boxes of functions and parameters are none of the program's, and no name is that of both.
        if name in boxes and isinstance(boxes[name], list):
            boxes[name][place] = value
        elif name in boxes:
            boxes[name] = value
    return emptied(program, boxes)


def carried(order, program, values, budget):
    """A run that carries ranks, as a tuple (word, record, values, met, carries); refuses with NoInput."""
    running = gone_through(program, values, budget)
    lists = rules_by_moment(program)
    carrying = Carrying(order, program)
    gone = []
    word = running.word
    for moment in running.moments:
        if not carrying.go_by_all(lists.get(moment[:2], [])):
            word = "stopped"
            break
        gone.append(moment)
    record = record_of(gone)
    return (word, record, values_behind(program, values, record), carrying.met, carrying.carries)


def ways_from(told, ways, node):
    """A dict from each rank that can set out from a node by now to the places of the rules by which it came there."""
    return {told[node]: []} if node in told else dict(ways.get(node, {}))


def own_road(order, program, met):
    """An own road among rules, as the list of their rising places, or None where there is none."""
    told = told_ranks(order, program)
    # For each untold node the way by which each rank came there first: it comes to no node twice, for a second time
    # at a node would not be the first one.
    ways = {}
    for place, rule in enumerate(met):
        here = ways_from(told, ways, rule[3])
        for rank, way in here.items():
            if rule[4] not in told:
                ways.setdefault(rule[4], {}).setdefault(rank, way + [place])
            elif not order.under(rank, told[rule[4]]):
                return way + [place]
    return None
