"""Runs: what a program does with an input and a budget, moment by moment."""

from hushwise.errors import NoInput
from hushwise.plans import Plan
from hushwise.sums import LIMIT, value_of


def can_be_held(thing):
    """Whether a thing is a number that a box can hold."""
    return isinstance(thing, int) and not isinstance(thing, bool) and 0 <= thing < LIMIT


def suits(size, thing):
    """Whether a thing is one that an input may have for a box of a size."""
    if size == 0:
        return can_be_held(thing)
    return isinstance(thing, list) and len(thing) == size and all([can_be_held(part) for part in thing])


def refuse_input(program, values):
    """Refuse with NoInput what is no input of a program."""
    if not isinstance(values, list) or len(values) != len(program[0]):
        raise NoInput("an input is a list with one thing for each box")
    for box, thing in zip(program[0], values):
        name = box[0]
        if not suits(box[1], thing):
            # The thing is not shown: a number may be too long to be written.
            raise NoInput(f"the box {name!r} can't hold what is handed in for it")


def filled(program, values):
    """A dict from the name of each of a program's boxes to what an input lays into it."""
    boxes = {}
    for box, thing in zip(program[0], values):
        boxes[box[0]] = list(thing) if isinstance(thing, list) else thing
    return boxes


def emptied(program, boxes):
    """What a dict of boxes holds for those of a program, as an input tells it."""
    return [boxes[name] for name, size, rank in program[0]]


class Running:
    """A run on its way: what the boxes hold, what is left of the budget, what is due, and the moments so far."""

    def __init__(self, program, values, budget):
        self.plan = Plan(program)
        self.boxes = filled(program, values)
        # The own boxes of each call that has not come back, the innermost last; those of main, none, come first.
        self.own = [{}]
        self.budget = budget
        self.word = "done"
        self.moments = []
        # Tuples (row, time), the next one last; kept in a list, so that no depth of calls is too deep.
        self.due = []
        self.lay_body("main")

    def lay(self, numbers):
        """Make rows due, one behind the other, ahead of all that is due already."""
        self.due.extend([(k, 0) for k in reversed(numbers)])

    def lay_body(self, name):
        """Make the rows of a body due, and behind them its end."""
        numbers = self.plan.body(name)
        if numbers:
            self.due.append((numbers[-1], 3))
        self.lay(numbers)

    def step(self):
        """Do what is due next."""
        due = self.due.pop()
        if due[1] == 0:
            self.begin(due[0])
        elif due[1] == 2:
            self.come_back(due[0])
        else:
            self.note(due[0], due[1], [])

    def note(self, k, time, events):
        """Keep a moment."""
        self.moments.append((k, time, events))

    def value(self, expression):
        """What an expression comes to by the boxes that are there now."""
        there = dict(self.boxes)
        there.update(self.own[-1])
        return value_of(expression, there)

    def give(self, name, value):
        """Give a value to a box with one number; the event that this is."""
        holder = self.own[-1] if name in self.own[-1] else self.boxes
        holder[name] = value
        return (name, 0, value)

    def spend(self):
        """Take one from the budget, or end the run where nothing is left; whether one was taken."""
        if self.budget <= 0:
            self.word = "spent"
            self.due.clear()
            return False
        self.budget = self.budget - 1
        return True

    def begin(self, k):
        """Do a row as it begins."""
        row = self.plan.row(k)
        self.note(k, 0, [])
        if row[0] == "if":
            self.lay(self.plan.block(k, 1 if self.value(row[1]) == 0 else 0))
        elif row[0] == "while":
            self.look(k, row)
        elif row[0] == "call":
            self.call(k, row)
        elif row[0] == "put":
            self.put(k, row)
        else:
            self.note(k, 1, [self.give(row[1], self.value(row[2]))])

    def look(self, k, row):
        """Look at a while, and make its block due, and behind that the while again, where it goes round."""
        if self.value(row[1]) != 0 and self.spend():
            self.due.append((k, 0))
            self.lay(self.plan.block(k, 0))

    def put(self, k, row):
        """Do a put."""
        numbers = self.boxes[row[1]]
        place = self.value(row[2])
        value = self.value(row[3])
        events = []
        if place < len(numbers):
            numbers[place] = value
            events.append((row[1], place, value))
        self.note(k, 1, events)

    def call(self, k, row):
        """Begin a call: its function gets boxes of its own, and its body is due."""
        if not self.spend():
            return
        values = [self.value(expression) for expression in row[3]]
        own = {row[2]: 0}
        events = []
        for param, value in zip(self.plan.params(row[2]), values):
            own[param] = value
            events.append((param, 0, value))
        self.own.append(own)
        self.note(k, 1, events)
        self.due.append((k, 2))
        self.lay_body(row[2])

    def come_back(self, k):
        """End a call: its own boxes are gone, and what stood in the one by the function's name is given on."""
        row = self.plan.row(k)
        own = self.own.pop()
        self.note(k, 2, [self.give(row[1], own[row[2]])])


def gone_through(program, values, budget):
    """The run of a program, at its end; refuses with NoInput."""
    refuse_input(program, values)
    running = Running(program, values, budget)
    while running.due:
        running.step()
    return running


def record_of(moments):
    """The list of the events (row, name, place, value) of some moments."""
    record = []
    for row, time, events in moments:
        record.extend([(row, name, place, value) for name, place, value in events])
    return record


def run(program, values, budget):
    """A run as a tuple (word, record, values); refuses with NoInput."""
    running = gone_through(program, values, budget)
    return (running.word, record_of(running.moments), emptied(program, running.boxes))


def traced(program, values, budget):
    """The list of the moments (row, time, events) of a run; refuses with NoInput."""
    return gone_through(program, values, budget).moments
