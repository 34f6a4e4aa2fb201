"""The desk: the program of a text, asked and mended by rows of words."""

from hushwise.carry import carried
from hushwise.errors import NoFit, NoInput, NoName, NoRow
from hushwise.looker import broken, found, road
from hushwise.menders import hushed, raised
from hushwise.orders import Order
from hushwise.programs import faults, numbered
from hushwise.runner import run
from hushwise.sides import beside, seen
from hushwise.texts import is_number, read, shown

# The words that stand behind the one that begins a row, ahead of its inputs, each by what it may be.
HEADS = {
    "show": (),
    "look": (),
    "rank": ("word", "word"),
    "road": ("number",),
    "run": ("budget",),
    "carry": ("budget",),
    "hear": ("word", "budget"),
    "beside": ("word", "budget"),
    "hush": (),
    "raise": (),
}
# How many inputs stand behind these; none, where the row is not here.
INPUTS = {"run": 1, "carry": 1, "hear": 1, "beside": 2}
MOST_BUDGET = 20


def may_be(kind, word):
    """Whether a word may stand where one of a kind does."""
    if kind == "word":
        return word != ""
    return is_number(word) and (kind == "number" or int(word) <= MOST_BUDGET)


def inputs_told(words, count):
    """As many lists of numbers as count says, that words tell with a / between, or None where they tell no such."""
    if count == 0:
        return None if words else []
    lists = [[]]
    for word in words:
        if word == "/":
            lists.append([])
        elif is_number(word):
            lists[-1].append(int(word))
        else:
            return None
    return lists if len(lists) == count else None


def row_read(row):
    """A row as a tuple (word, heads, inputs), inputs a list of lists of numbers; refuses with NoRow."""
    words = row.split(" ")
    if words[0] not in HEADS:
        raise NoRow("no row begins so")
    kinds = HEADS[words[0]]
    start = 1 + len(kinds)
    heads = words[1:start]
    if len(heads) < len(kinds) or not all([may_be(kind, word) for kind, word in zip(kinds, heads)]):
        raise NoRow("the row's words are not those that it needs")
    inputs = inputs_told(words[start:], INPUTS.get(words[0], 0))
    if inputs is None:
        raise NoRow("the row does not end as it needs to")
    return (words[0], heads, inputs)


def boxed(program, numbers):
    """The input that numbers tell, box by box; refuses with NoInput where they are not as many as the boxes hold."""
    if len(numbers) != sum([max(1, size) for name, size, rank in program[0]]):
        raise NoInput("the numbers are not as many as the boxes hold")
    values = []
    start = 0
    for name, size, rank in program[0]:
        values.append(numbers[start] if size == 0 else numbers[start:start + size])
        start = start + max(1, size)
    return values


def ending_shown(word, values):
    """The text of a run's word and of what its boxes hold at the end."""
    words = [word]
    for thing in values:
        words.extend([str(number) for number in (thing if isinstance(thing, list) else [thing])])
    return " ".join(words)


def events_shown(events):
    """The text of events."""
    if not events:
        return "nothing"
    return "; ".join([f"{row} {name} {place} {value}" for row, name, place, value in events])


def road_shown(way):
    """The text of a road."""
    return " ".join([way[0][3]] + [f"{kind} {row} {target}" for row, time, kind, source, target in way])


class Desk:
    """An order and a program, which rows ask about or mend."""

    def __init__(self, text):
        told = read(text)
        order = Order(told[0], told[1])
        lacking = faults(order, told[2])
        if lacking:
            raise NoFit(lacking)
        self.names = told[0]
        self.pairs = told[1]
        self.order = order
        self.program = told[2]

    def say(self, row):
        """The answer to a row; refuses with NoRow, NoName, NoInput."""
        told = row_read(row)
        self.refuse_stranger_in(told[0], told[1])
        inputs = [boxed(self.program, numbers) for numbers in told[2]]
        if inputs:
            return self.answer_of_runs(told[0], told[1], inputs)
        return self.answer(told[0], told[1])

    def refuse_stranger_in(self, word, heads):
        """Refuse with NoName a node, a row's number or a rank that is not there."""
        there = True
        if word == "rank":
            there = " ".join(heads) in found(self.order, self.program)
        elif word == "road":
            there = int(heads[0]) < len(numbered(self.program))
        elif word in ("hear", "beside"):
            there = heads[0] in self.order.ranks()
        if not there:
            raise NoName("the row names what is not there")

    def answer(self, word, heads):
        """The answer to a row without inputs."""
        if word == "show":
            return shown(self.names, self.pairs, self.program)
        if word == "look":
            return self.answer_of_look()
        if word == "rank":
            return found(self.order, self.program)[" ".join(heads)]
        if word == "road":
            return self.answer_of_road(int(heads[0]))
        mended = hushed(self.order, self.program) if word == "hush" else raised(self.order, self.program)
        if mended is None:
            return "no"
        self.program = mended
        return "ok"

    def answer_of_look(self):
        """Whether the program is let by, or the numbers of the rows by which it is not."""
        numbers = sorted(set([rule[0] for rule in broken(self.order, self.program)]))
        return " ".join(["refused"] + [str(k) for k in numbers]) if numbers else "by"

    def answer_of_road(self, k):
        """A road to the first broken rule by a row's number."""
        some = [rule for rule in broken(self.order, self.program) if rule[0] == k]
        return road_shown(road(self.order, self.program, some[0])) if some else "none"

    def answer_of_runs(self, word, heads, inputs):
        """The answer to a row with inputs."""
        budget = int(heads[-1])
        if word == "run":
            told = run(self.program, inputs[0], budget)
            return ending_shown(told[0], told[2])
        if word == "carry":
            told = carried(self.order, self.program, inputs[0], budget)
            return ending_shown(told[0], told[2])
        if word == "hear":
            record = run(self.program, inputs[0], budget)[1]
            return events_shown(seen(self.order, self.program, record, heads[0]))
        sides = beside(self.order, self.program, inputs[0], inputs[1], heads[0], budget)
        count = len(sides[0])
        return f"alike {count}" if sides[1] is None else f"parts {count}"
