"""Plans: how the rows of a program that fits its order stand, told by their numbers."""

from hushwise.programs import numbered, spends


class Plan:
    """The rows of a program by number, the bodies and blocks they stand in, and the functions' parameters."""

    def __init__(self, program):
        told = numbered(program)
        lists = {}
        for number, one in enumerate(told):
            lists.setdefault(one[:3], []).append(number)
        heads = {}
        for name, rank, params, rows in program[2]:
            heads[name] = [param for param, known in params]
        self.told = told
        self.lists = lists
        self.heads = heads

    def numbers(self):
        """The numbers of all rows."""
        return list(range(len(self.told)))

    def bodies(self):
        """The names of the functions, and main."""
        return list(self.heads) + ["main"]

    def params(self, name):
        """The names of a function's parameters, in order."""
        return list(self.heads[name])

    def row(self, k):
        """The row by a number."""
        return self.told[k][3]

    def home(self, k):
        """The name of the function in whose body a row is, or main."""
        return self.told[k][0]

    def outer(self, k):
        """The number of the row in whose block a row stands, or None where it stands in no block."""
        return self.told[k][1]

    def body(self, name):
        """The numbers of the rows of a body, leaving out those in blocks."""
        return list(self.lists.get((name, None, 0), []))

    def block(self, k, which):
        """The numbers of the rows of a row's first block (which is 0) or second one (1), leaving out deeper ones."""
        return list(self.lists.get((self.told[k][0], k, which), []))

    def just_ahead(self, k):
        """The number of the row just ahead of a row in its body or block, or None where it is the first one."""
        beside = self.lists[self.told[k][:3]]
        place = beside.index(k)
        return None if place == 0 else beside[place - 1]

    def spending(self, numbers):
        """Whether one of the rows by some numbers spends."""
        return any([spends(self.row(k)) for k in numbers])
