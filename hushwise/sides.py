"""Two runs side by side, and what is known to somebody who listens."""

from hushwise.looker import found
from hushwise.programs import head_names
from hushwise.runner import run


def heard_names(order, program, rank):
    """A dict from the name of each box, function and parameter to whether its found rank is under a rank."""
    ranks = found(order, program)
    heard = {}
    for name in head_names(program):
        heard[name] = order.under(ranks[f"box {name}"], rank)
    return heard


def seen_events(heard, record):
    """The events of a record whose boxes are heard."""
    return [event for event in record if heard[event[1]]]


def seen_places(heard, record):
    """The places, in a record, of the events whose boxes are heard."""
    return [place for place, event in enumerate(record) if heard[event[1]]]


def same_where_heard(program, heard, one, other):
    """Whether two inputs have the same for each of the program's boxes that is heard."""
    return all([first == second for box, first, second in zip(program[0], one, other) if heard[box[0]]])


def seen(order, program, record, rank):
    """The events of a record that a rank is shown."""
    return seen_events(heard_names(order, program, rank), record)


def alike(order, program, one, other, rank):
    """Whether two inputs are alike up to a rank."""
    return same_where_heard(program, heard_names(order, program, rank), one, other)


def place_at(places, k):
    """The place that stands at k in a list of places, or None where it has no more."""
    return places[k] if k < len(places) else None


def beside(order, program, one, other, rank, budget):
    """Two runs laid side by side for a rank, as a tuple (pairs, part)."""
    heard = heard_names(order, program, rank)
    first = run(program, one, budget)[1]
    second = run(program, other, budget)[1]
    places = seen_places(heard, first)
    others = seen_places(heard, second)
    pairs = []
    for here, there in zip(places, others):
        if first[here] != second[there]:
            break
        pairs.append((here, there))
    count = len(pairs)
    if count == len(places) and count == len(others):
        return (pairs, None)
    return (pairs, (place_at(places, count), place_at(others, count)))


def knowing(order, program, inputs, at, rank, budget):
    """The places of the inputs that a rank may take for the run one: first, and behind each event that it is shown."""
    heard = heard_names(order, program, rank)
    shows = [seen_events(heard, run(program, values, budget)[1]) for values in inputs]
    possible = [k for k, values in enumerate(inputs) if same_where_heard(program, heard, inputs[at], values)]
    told = [possible]
    for count in range(1, len(shows[at]) + 1):
        possible = [k for k in possible if shows[k][:count] == shows[at][:count]]
        told.append(possible)
    return told
