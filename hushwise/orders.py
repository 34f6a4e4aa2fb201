"""Orders of ranks: who is under whom, joins and meets."""

from hushwise.errors import NoName, NoOrder

LETTERS = "abcdefghijklmnopqrstuvwxyz"


def is_name(text):
    """Whether a text is a name: one to eight small letters."""
    return 1 <= len(text) <= 8 and all([sign in LETTERS for sign in text])


def straight_above(some, pairs, name):
    """The others among some ranks that a told pair leads to from a name."""
    return [high for low, high in pairs if low == name and high != name and high in some]


def ring_of(names, pairs):
    """A ring as a list of ranks, or None where there is none."""
    rest = list(names)
    climbing = [name for name in rest if straight_above(rest, pairs, name)]
    # A rank with nothing above it is in no ring, so what outlasts leaving these out can be climbed for ever.
    while len(climbing) < len(rest):
        rest = climbing
        climbing = [name for name in rest if straight_above(rest, pairs, name)]
    if not rest:
        return None
    return ring_within(rest, pairs)


def ring_within(some, pairs):
    """A ring among ranks each of which has another one of them straight above it."""
    walk = [some[0]]
    above = straight_above(some, pairs, some[0])[0]
    while above not in walk:
        walk.append(above)
        above = straight_above(some, pairs, above)[0]
    return walk[walk.index(above):]


def climbed(name, pairs):
    """The ranks that a name is under, itself first."""
    met = [name]
    grown = True
    while grown:
        grown = False
        for low, high in pairs:
            if low in met and high not in met:
                met.append(high)
                grown = True
    return met


def all_above(names, pairs):
    """A dict from each rank to the list of those that it is under."""
    above = {}
    for name in names:
        above[name] = climbed(name, pairs)
    return above


def all_beneath(names, pairs):
    """A dict from each rank to the list of those that are under it."""
    return all_above(names, [(high, low) for low, high in pairs])


def bound(reach, one, other):
    """The join of two ranks where reach is all_above, their meet where it is all_beneath; None where they have none."""
    shared = [rank for rank in reach[one] if rank in reach[other]]
    for rank in shared:
        if all([beyond in reach[rank] for beyond in shared]):
            return rank
    return None


def bounds(reach):
    """A dict from each tuple of two ranks to their bound."""
    told = {}
    for one in reach:
        for other in reach:
            told[(one, other)] = bound(reach, one, other)
    return told


def unbound(reach):
    """A tuple of two ranks that have no bound, or None where all have one."""
    for both, rank in bounds(reach).items():
        if rank is None:
            return both
    return None


def lack_of(names, pairs):
    """A lack as a tuple, or None where there is none; of names and pairs without a ring."""
    apart = unbound(all_above(names, pairs))
    if apart is not None:
        return ("join", apart[0], apart[1])
    apart = unbound(all_beneath(names, pairs))
    if apart is not None:
        return ("meet", apart[0], apart[1])
    return None


def refuse_names(names, pairs):
    """Refuse with NoName what is no name, stands twice or is a stranger in a pair."""
    for name in names:
        if not is_name(name):
            raise NoName(f"{name!r} is no name")
        if names.count(name) > 1:
            raise NoName(f"{name!r} stands twice")
    for low, high in pairs:
        if low not in names or high not in names:
            raise NoName(f"the pair of {low!r} and {high!r} has a stranger")


def refuse_order(names, pairs):
    """Refuse with NoOrder names and pairs that lack a rank, have a ring or have a lack."""
    if not names:
        raise NoOrder("there are no ranks")
    ring = ring_of(names, pairs)
    if ring is not None:
        raise NoOrder(f"{ring!r} is a ring")
    lack = lack_of(names, pairs)
    if lack is not None:
        raise NoOrder(f"{lack!r} is lacking")


class Order:
    """Ranks in which any two have a join and a meet."""

    def __init__(self, names, pairs):
        refuse_names(names, pairs)
        refuse_order(names, pairs)
        self.names = list(names)
        self.above = all_above(names, pairs)
        self.joins = bounds(self.above)
        self.meets = bounds(all_beneath(names, pairs))
        self.lowest = [name for name in names if len(self.above[name]) == len(names)][0]
        self.highest = [name for name in names if len(self.above[name]) == 1][0]

    def refuse_stranger(self, rank):
        """Refuse with NoName what is none of the ranks."""
        if rank not in self.names:
            raise NoName(f"{rank!r} is no rank of this order")

    def ranks(self):
        """The list of the ranks, in the order in which they were told."""
        return list(self.names)

    def under(self, one, other):
        """Whether one rank is under another."""
        self.refuse_stranger(one)
        self.refuse_stranger(other)
        return other in self.above[one]

    def join(self, one, other):
        """The least rank that both are under."""
        self.refuse_stranger(one)
        self.refuse_stranger(other)
        return self.joins[(one, other)]

    def meet(self, one, other):
        """The greatest rank that is under both."""
        self.refuse_stranger(one)
        self.refuse_stranger(other)
        return self.meets[(one, other)]

    def joined(self, some):
        """The least rank that all of a list of ranks are under."""
        rank = self.lowest
        for one in some:
            rank = self.join(rank, one)
        return rank

    def least(self):
        """The rank that is under all."""
        return self.lowest

    def greatest(self):
        """The rank that all are under."""
        return self.highest
