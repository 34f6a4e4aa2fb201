import itertools
import random
import unittest

from helpers import CHAIN, DIAMOND, keeps_to_itself, made_of, made_up, own_lists, sample_program
from helpers import SAMPLE_NAMES, SAMPLE_PAIRS
from hushwise.looker import broken, found, lets_by
from hushwise.menders import hushed, raised
from hushwise.orders import Order
from hushwise.programs import faults, head_pairs, numbered
from hushwise.texts import read, shown

NOTHING = ["if 0", "else", "end"]


def with_heads(program, ranks):
    """The program with other ranks for its boxes, functions and parameters, in their order."""
    rest = list(ranks)
    boxes = [(name, size, rest.pop(0)) for name, size, rank in program[0]]
    functions = []
    for name, rank, params, rows in program[2]:
        rank = rest.pop(0)
        functions.append((name, rank, [(param, rest.pop(0)) for param, old in params], rows))
    return (boxes, program[1], functions, program[3])


class Hushed(unittest.TestCase):
    def hushes(self, lines, wanted):
        """That the program of lines is hushed to that of others."""
        order, program = made_of(*lines)
        told = hushed(order, program)
        self.assertEqual(told, made_of(*wanted)[1])
        self.hushed_so(order, program, told)

    def hushed_so(self, order, program, told):
        """That just the rows by which there is a broken rule do nothing, and the rest is as it was."""
        self.assertEqual(told[:2], program[:2])
        self.assertEqual([one[:3] for one in told[2]], [one[:3] for one in program[2]])
        self.assertEqual(faults(order, told), [])
        self.assertTrue(lets_by(order, told))
        self.assertEqual(hushed(order, told), told)
        loud = {rule[0] for rule in broken(order, program)}
        old, new = numbered(program), numbered(told)
        self.assertEqual([one[:3] for one in new], [one[:3] for one in old])
        for k, (one, other) in enumerate(zip(old, new)):
            if k in loud:
                self.assertEqual(other[3], ("if", ("num", 0), [], []))
            elif one[3][0] in ("if", "while"):
                self.assertEqual(other[3][:2], one[3][:2])
                self.assertEqual([len(some) for some in other[3][2:]], [len(some) for some in one[3][2:]])
            else:
                self.assertEqual(other[3], one[3])

    def test_what_is_let_by_stays(self):
        for lines in ((), ("box a low", "box s high", "set s a", "while a", "set s + s 1", "end", "out a ann s"),
                      ("list r 1 high", "box a low", "def f ? x high", "if x", "set f 1", "else", "end", "end",
                       "if a", "out a ann 1", "else", "while a", "put r 0 a", "end", "end")):
            self.hushes(CHAIN + lines, CHAIN + lines)

    def test_a_row_of_each_kind(self):
        heads = CHAIN + ("box a low", "box s high", "list r 2 low", "def f ? x low", "end")
        for line in ("set a s", "put r 0 s", "put r s 0", "out a bob s", "call a f s"):
            self.hushes(heads + ("set a 1", line, "set s a"), heads + ("set a 1", *NOTHING, "set s a"))

    def test_rows_that_are_broken_by_where_they_stand(self):
        heads = CHAIN + ("box a low", "box s high")
        self.hushes(heads + ("if s", "set a 1", "set s 2", "else", "out a ann 2", "end", "set a 3"),
                    heads + ("if s", *NOTHING, "set s 2", "else", *NOTHING, "end", "set a 3"))
        self.hushes(heads + ("while s", "set s - s 1", "end", "set a 1"),
                    heads + ("while s", "set s - s 1", "end", *NOTHING))

    def test_rows_deep_in_blocks(self):
        heads = CHAIN + ("box a low", "box s high")
        self.hushes(heads + ("if a", "else", "if a", "while a", "set a 1", "if a", "set a s", "else", "set a 2", "end", "end",
                             "else", "end", "end", "set a s", "set a 4"),
                    heads + ("if a", "else", "if a", "while a", "set a 1", "if a", *NOTHING, "else", "set a 2", "end", "end",
                             "else", "end", "end", *NOTHING, "set a 4"))

    def test_rows_in_functions(self):
        heads = CHAIN + ("box a low", "box s high")
        self.hushes(heads + ("def f low x ?", "set f x", "if x", "set f 1", "else", "set x 1", "end", "end", "def g low",
                             "set g 1", "set g s", "end", "call a f s", "call a g"),
                    heads + ("def f low x ?", *NOTHING, "if x", *NOTHING, "else", "set x 1", "end", "end", "def g low",
                             "set g 1", *NOTHING, "end", "call a f s", "call a g"))

    def test_all_rows_are_hushed_by_what_they_are_in_the_old_program(self):
        heads = CHAIN + ("box a low", "box b ?", "box s high")
        self.hushes(heads + ("set b s", "set a b", "set b a"), heads + ("set b s", *NOTHING, "set b a"))
        # Were the call left out first, the row behind it would be let by.
        heads = CHAIN + ("box a low", "box s high", "def f ? x low", "while s", "end", "end")
        self.hushes(heads + ("call a f s", "set a 1"), heads + (*NOTHING, *NOTHING))

    def test_a_row_by_which_more_rules_are_broken(self):
        heads = CHAIN + ("box a low", "box s high", "box t high")
        self.hushes(heads + ("if s", "set a + s t", "else", "end"), heads + ("if s", *NOTHING, "else", "end"))

    def test_ten_rows_and_more(self):
        heads = CHAIN + ("box a low", "box s high")
        self.hushes(heads + ("set a 1", "set a s") * 12, heads + ("set a 1", *NOTHING) * 12)

    def test_made_up_programs(self):
        chance = random.Random(51)
        stayed = []
        for turn in range(200):
            order, program, maker = made_up(chance, chance.choice([0.3, 0.6, 0.9]), busy=turn % 2)
            told = hushed(order, program)
            self.hushed_so(order, program, told)
            self.assertEqual(told == program, lets_by(order, program))
            stayed.append(told == program)
        self.assertGreater(min(stayed.count(True), stayed.count(False)), 50)


class Raised(unittest.TestCase):
    def raises(self, first, heads, rows, wanted):
        """That the program of heads and rows is raised to that of other heads, or not at all."""
        order, program = made_of(*first, *heads, *rows)
        told = raised(order, program)
        if wanted is None:
            self.assertIsNone(told)
        else:
            self.assertEqual(told, made_of(*first, *wanted, *rows)[1])
            self.assertTrue(lets_by(order, told))
            self.assertEqual(raised(order, told), told)

    def test_what_is_let_by_is_raised_to_itself(self):
        for heads, rows in (((), ()), (("box a low", "box b ?", "box s high"), ("set b s", "set s a", "out a ann s"))):
            self.raises(CHAIN, heads, rows, heads)

    def test_by_a_value(self):
        self.raises(CHAIN, ("box a low", "box s high"), ("set a s",), ("box a high", "box s high"))
        self.raises(CHAIN, ("box a low", "box m mid", "box s high"), ("set a m",), ("box a mid", "box m mid", "box s high"))
        self.raises(CHAIN, ("list r 3 low", "box s high"), ("put r s 1",), ("list r 3 high", "box s high"))

    def test_what_follows_of_it(self):
        self.raises(CHAIN, ("box a low", "box b low", "box c low", "box s mid"), ("set c b", "set b a", "set a s"),
                    ("box a mid", "box b mid", "box c mid", "box s mid"))
        self.raises(CHAIN, ("box a low", "box b low", "box s high"), ("set a s", "if a", "set b 1", "else", "end"),
                    ("box a high", "box b high", "box s high"))

    def test_untold_ones_stay_untold(self):
        self.raises(CHAIN, ("box a low", "box b ?", "list r 2 ?", "box s high"), ("set b s", "set a b", "put r 0 a"),
                    ("box a high", "box b ?", "list r 2 ?", "box s high"))

    def test_by_choices_and_how_long_something_goes_on(self):
        self.raises(CHAIN, ("box a low", "box s mid"), ("if s", "set a 1", "else", "end"), ("box a mid", "box s mid"))
        self.raises(CHAIN, ("box a low", "box s mid"), ("while s", "end", "set a 1"), ("box a mid", "box s mid"))

    def test_functions_and_parameters(self):
        body = ("set f x", "end")
        self.raises(CHAIN, ("box a low", "box s high"), ("def f ? x ?",) + body + ("call a f s",), ("box a high", "box s high"))
        order, program = made_of(*CHAIN, "box a low", "box s high", "def f low x low y low", *body, "call a f s 1")
        self.assertEqual(raised(order, program), made_of(
            *CHAIN, "box a high", "box s high", "def f high x high y low", *body, "call a f s 1")[1])
        order, program = made_of(*CHAIN, "box a low", "box m mid", "box s high", "def f ? x low y low", *body, "call a f m s")
        self.assertEqual(raised(order, program), made_of(
            *CHAIN, "box a mid", "box m mid", "box s high", "def f ? x mid y high", *body, "call a f m s")[1])

    def test_joins(self):
        self.raises(DIAMOND, ("box a left", "box b right", "box c least"), ("set c a", "set c b", "set a 1"),
                    ("box a left", "box b right", "box c top"))
        self.raises(DIAMOND, ("box a left", "box b right", "box c right"), ("set c a",),
                    ("box a left", "box b right", "box c top"))
        self.raises(DIAMOND, ("box a left", "box b right", "box c least"), ("set c b",),
                    ("box a left", "box b right", "box c right"))

    def test_outs_that_hold(self):
        self.raises(CHAIN, ("box a low", "box b low", "box s high"), ("set b s", "out a ann b"),
                    ("box a low", "box b high", "box s high"))
        self.raises(CHAIN, ("box a low", "box b low", "box s mid"), ("set b s", "out a bob b"),
                    ("box a low", "box b mid", "box s mid"))

    def test_an_out_in_a_place_that_is_secret(self):
        self.raises(CHAIN, ("box a low", "box s high"), ("if s", "out a ann 1", "else", "end"), ("box a high", "box s high"))

    def test_an_out_whose_low_is_too_high(self):
        first = CHAIN + ("may cid low high",)
        self.raises(first, ("box a low", "box s mid"), ("out a cid 1", "set s a"), ("box a high", "box s high"))

    def test_none(self):
        self.raises(CHAIN, ("box a low", "box s high"), ("out a bob s",), None)
        self.raises(CHAIN, ("box a low", "box s high"), ("set a 1", "out a bob + a s"), None)
        self.raises(CHAIN, ("box a low", "box b low", "box s high"), ("set b s", "out a bob b"), None)
        self.raises(CHAIN, ("box a low", "box b ?", "box s high"), ("set b s", "out a bob b"), None)
        self.raises(CHAIN + ("may cid low high",), ("box a low",), ("out a cid 1", "out a bob a"), None)

    def test_by_trial(self):
        chance = random.Random(52)
        ways = []
        while len(ways) < 150:
            order, program, maker = made_up(chance, chance.choice([0.5, 0.9]), busy=len(ways) % 2)
            choices = [[None] if rank is None else [high for high in order.ranks() if order.under(rank, high)]
                       for name, rank in head_pairs(program)]
            count = 1
            for some in choices:
                count *= len(some)
            if count <= 80:
                ways.append(self.tried(order, program, choices))
        self.assertGreater(min(ways.count(word) for word in ("none", "same", "raised")), 15)

    def tried(self, order, program, choices):
        """That the raised program is the least of all those by whatever raised ranks that are let by."""
        by = [ranks for ranks in itertools.product(*choices) if lets_by(order, with_heads(program, ranks))]
        told = raised(order, program)
        if told is None:
            self.assertEqual(by, [])
            return "none"
        least = tuple(rank for name, rank in head_pairs(told))
        self.assertEqual(told, with_heads(program, least))
        self.assertIn(least, by)
        for ranks in by:
            self.assertTrue(all(low is None or order.under(low, high) for low, high in zip(least, ranks)))
        self.assertEqual(told == program, lets_by(order, program))
        return "same" if told == program else "raised"

    def test_made_up_programs(self):
        chance = random.Random(53)
        some = []
        for turn in range(200):
            order, program, maker = made_up(chance, chance.choice([0.3, 0.6, 0.9]), busy=turn % 2)
            told = raised(order, program)
            if told is not None:
                self.assertEqual(faults(order, told), [])
                self.assertTrue(lets_by(order, told))
                self.assertEqual((told[1], told[3]), (program[1], program[3]))
                for (name, old), (same, new) in zip(head_pairs(program), head_pairs(told)):
                    self.assertEqual(name, same)
                    self.assertTrue(new is None if old is None else order.under(old, new))
            self.assertTrue(told == program if lets_by(order, program) else told != program)
            some.append(told is None)
        self.assertGreater(min(some.count(True), some.count(False)), 20)


class Own(unittest.TestCase):
    def kept(self, order, program):
        for mend in (hushed, raised):
            keeps_to_itself(self, lambda one: mend(order, one), program)

    def test_the_sample(self):
        self.kept(Order(SAMPLE_NAMES, SAMPLE_PAIRS), sample_program())

    def test_made_up_programs(self):
        chance = random.Random(54)
        for turn in range(60):
            self.kept(*made_up(chance, busy=turn % 2)[:2])

    def test_lists_that_stand_twice_in_the_program(self):
        some = [("set", "a", ("num", 1))]
        params = []
        call = ("call", "a", "f", params)
        rows = [("if", ("box", "a"), some, some), ("while", ("num", 0), some), call, call]
        program = ([("a", 0, "low")], [], [("f", None, params, some), ("g", None, params, some)], rows)
        order = Order(["low"], [])
        for mend in (hushed, raised):
            told = mend(order, program)
            self.assertEqual(told, program)
            own_lists(self, told, program)

    def test_what_is_told_can_be_mended_and_shown_again(self):
        names, pairs, program = read("\n".join([*CHAIN, "box a low", "box s high", "set a s"]))
        order = Order(names, pairs)
        told = hushed(order, program)
        told[3].append(("set", "a", ("box", "s")))
        told[0].clear()
        self.assertEqual(shown(names, pairs, hushed(order, program)), "\n".join([*CHAIN, "box a low", "box s high", *NOTHING]))
        self.assertEqual(found(order, raised(order, program))["box a"], "high")
        self.assertEqual(broken(order, program), [(0, 1, "value", "box s", "box a")])


if __name__ == "__main__":
    unittest.main()
