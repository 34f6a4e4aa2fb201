"""The promise over the whole: of a program that is let by, nobody hears more than their rank may."""

import itertools
import random
import unittest

from helpers import CHAIN, DIAMOND, keeps_to_itself, made_of, made_up, sample_program, SAMPLE_NAMES, SAMPLE_PAIRS
from hushwise.carry import carried, own_road
from hushwise.looker import broken, found, lets_by, road
from hushwise.menders import hushed, raised
from hushwise.orders import Order
from hushwise.programs import faults, numbered
from hushwise.rules import rules
from hushwise.runner import run, traced
from hushwise.sides import alike, beside, knowing, seen


def heard(order, program, rank, ranks):
    """The names of the program's boxes whose found rank is under a rank."""
    return [one[0] for one in program[0] if order.under(ranks["box " + one[0]], rank)]


def laid_together(order, program, ranks, one, other, rank, budget):
    """What two runs of inputs that are alike show to a rank: "same", "parts" at an out, or "leaks"."""
    first, second = [run(program, values, budget) for values in (one, other)]
    shown = [[event for event in told[1] if order.under(ranks["box " + event[1]], rank)] for told in (first, second)]
    if shown[0] == shown[1]:
        names = heard(order, program, rank, ranks)
        ends = [[thing for box, thing in zip(program[0], told[2]) if box[0] in names] for told in (first, second)]
        words = [told[0] if order.under(ranks["leave main"], rank) else "" for told in (first, second)]
        return "same" if ends[0] == ends[1] and words[0] == words[1] else "leaks"
    count = min(len(shown[0]), len(shown[1]))
    unlike = [k for k in range(count) if shown[0][k] != shown[1][k]]
    if not unlike:
        return "leaks"
    events = [some[unlike[0]] for some in shown]
    row = numbered(program)[events[0][0]][3]
    same = events[0][:3] == events[1][:3] and row[0] == "out" and row[1] == events[0][1]
    return "parts" if same and events[0][3] != events[1][3] else "leaks"


class Whole(unittest.TestCase):
    def kept(self, order, program, inputs, budgets):
        """That the promise holds of a program for every rank, and pairs of inputs; how often they were same and parted."""
        self.assertTrue(lets_by(order, program))
        told = []
        ranks = found(order, program)
        for rank in order.ranks():
            names = heard(order, program, rank, ranks)
            for one, other in itertools.combinations(inputs, 2):
                other = [old if box[0] in names else new for box, old, new in zip(program[0], one, other)]
                self.assertTrue(alike(order, program, one, other, rank))
                for budget in budgets:
                    told.append(laid_together(order, program, ranks, one, other, rank, budget))
                self.assertNotIn("leaks", told)
                self.assertEqual(beside(order, program, one, other, rank, budgets[-1])[1] is None, told[-1] == "same")
        return told

    def ways(self, lines):
        """The order of lines, and their program as it stands, hushed and raised, those that are let by."""
        order, program = made_of(*lines)
        some = [program, hushed(order, program), raised(order, program)]
        return order, [one for one in some if one is not None and lets_by(order, one)]

    def test_programs_that_are_let_by(self):
        heads = CHAIN + ("box a low", "box m mid", "box s high", "box b ?")
        for lines in (("out a ann s", "set b a", "set a 1"), ("while s", "set s - s 1", "set b 1", "end"),
                      ("if s", "set b 1", "else", "while s", "end", "end"), ("while a", "set a - a 1", "out m ann s", "end"),
                      ("while m", "set m 0", "end", "call b f s m"), ("set a 1", "call b f s m", "set m 1"),
                      ("call s f s m", "set b 3"), ("out m ann < s 1", "if m", "set b 1", "while 1", "end", "else", "end")):
            defs = ("def f ? x ? y ?", "if y", "set f x", "call f f x - y 1", "else", "end", "end")
            order, program = made_of(*heads, *defs, *lines)
            inputs = [list(values) for values in itertools.product((0, 2), (0, 1), (0, 1, 2), (0, 1))]
            self.kept(order, program, inputs, (0, 1, 2, 5))

    def test_programs_that_are_mended(self):
        told = []
        heads = DIAMOND + ("may ann top least", "box l left", "box r right", "box o least", "box u ?", "list q 2 ?")
        for lines in (("set o + l r", "out o ann l", "set u o"), ("if l", "set o 1", "else", "while r", "set r 0", "end", "end",
                      "set o 2"), ("put q l r", "set l @ q 0", "out o ann @ q 1"), ("while l", "set l - l 1", "out r ann l",
                      "set u r", "end", "set r u"), ("if r", "while l", "set l - l 1", "end", "else", "end", "set o 1")):
            order, programs = self.ways(heads + lines)
            self.assertGreaterEqual(len(programs), 2)
            inputs = [[l, r, 0, 1, [l, r]] for l in range(3) for r in range(3)]
            for program in programs:
                told.extend(self.kept(order, program, inputs, (0, 1, 2, 4)))
        self.assertGreater(told.count("parts"), 50)
        self.assertGreater(told.count("same"), 1000)

    def test_made_up_programs(self):
        chance = random.Random(71)
        told = {"by": [], "hushed": [], "raised": []}
        for turn in range(250):
            order, program, maker = made_up(chance, chance.choice([0.3, 0.5, 0.9]), busy=turn % 4)
            some = {"by": program, "hushed": hushed(order, program), "raised": raised(order, program)}
            for word, one in some.items():
                if one is not None and lets_by(order, one):
                    inputs = [maker.values(one) for k in range(3)]
                    told[word].extend(self.kept(order, one, inputs, (0, 1, 2, chance.randrange(3, 21))))
        for words in told.values():
            self.assertGreater(words.count("parts"), 10)
            self.assertGreater(words.count("same"), 1000)

    def test_what_is_not_let_by_may_leak(self):
        heads = CHAIN + ("box a low", "box s high")
        for lines in (("set a s",), ("if s", "set a 1", "else", "set a 2", "end"), ("while s", "end", "set a 1"),
                      ("while s", "set s - s 1", "end", "while a", "set a - a 1", "end"), ("if s", "out a ann 1", "else", "end"),
                      ("if s", "call s f", "else", "end", "set a 1"), ("call s g s", "set a 1")):
            order, program = made_of(*heads, "def f ?", "end", "def g ? x ?", "while x", "set x - x 1", "end", "end", *lines)
            self.assertFalse(lets_by(order, program))
            ranks = found(order, program)
            words = [laid_together(order, program, ranks, [2, s], [2, t], "low", budget)
                     for s in range(3) for t in range(3) for budget in range(4)]
            self.assertIn("leaks", words)
            for one in (hushed(order, program), raised(order, program)):
                self.kept(order, one, [[2, 0], [2, 1], [2, 2]], range(4))

    def test_the_word_is_kept_where_the_end_is_heard(self):
        order, program = made_of(*CHAIN, "box a low", "box s high", "while a", "set a - a 1", "end")
        self.assertEqual(found(order, program)["leave main"], "low")
        self.kept(order, program, [[3, s] for s in range(4)], range(5))
        order, program = made_of(*CHAIN, "box a low", "box s high", "while s", "set s - s 1", "end")
        self.assertEqual([run(program, [0, s], 1)[0] for s in (1, 2)], ["done", "spent"])
        self.assertEqual(found(order, program)["leave main"], "high")
        self.kept(order, program, [[3, s] for s in range(4)], range(5))


class Own(unittest.TestCase):
    def asked(self, order, program, one, other):
        """That each question leaves what is handed in as it is, and what is told is the asker's own."""
        rank = order.ranks()[0]
        rule = (broken(order, program) + rules(program) + [None])[0]
        record = run(program, one, 3)[1]
        met = carried(order, program, one, 3)[3]
        for ask in (lambda p, a, b: run(p, a, 3), lambda p, a, b: traced(p, a, 3), lambda p, a, b: rules(p),
                    lambda p, a, b: faults(order, p), lambda p, a, b: found(order, p), lambda p, a, b: road(order, p, rule),
                    lambda p, a, b: carried(order, p, a, 3), lambda p, a, b: own_road(order, p, met),
                    lambda p, a, b: seen(order, p, record, rank), lambda p, a, b: alike(order, p, a, b, rank),
                    lambda p, a, b: beside(order, p, a, b, rank, 3), lambda p, a, b: knowing(order, p, [a, b, a], 0, rank, 3),
                    lambda p, a, b: hushed(order, p), lambda p, a, b: raised(order, p)):
            keeps_to_itself(self, ask, program, one, other)

    def test_the_sample(self):
        order = Order(SAMPLE_NAMES, SAMPLE_PAIRS)
        self.asked(order, sample_program(), [1, 2, [0] * 8, [3], 4], [1, 2, [1] * 8, [3], 4])

    def test_made_up_programs(self):
        chance = random.Random(72)
        for turn in range(20):
            order, program, maker = made_up(chance, busy=turn % 2)
            self.asked(order, program, maker.values(program), maker.values(program))

    def test_what_was_told_and_then_changed_changes_no_later_answer(self):
        order, program = made_of(*CHAIN, "box a low", "list r 2 ?", "box s high", "def f ? x ?", "set f x", "end",
                                 "if a", "put r 0 s", "else", "call s f @ r 1", "end", "set a s")
        first = hushed(order, program)
        first[3][0][2].clear()
        first[3][0][3][0][3].append(("num", 1))
        first[2][0][2].clear()
        second = raised(order, program)
        second[3][0][2].append(("set", "a", ("box", "s")))
        second[0].clear()
        lists = knowing(order, program, [[0, [1, 2], 3]] * 2, 0, "low", 3)
        lists[0].clear()
        carried(order, program, [0, [1, 2], 3], 3)[4].clear()
        self.assertEqual(hushed(order, program)[:3], program[:3])
        self.assertEqual(hushed(order, program)[3][0], program[3][0])
        self.assertEqual(raised(order, program)[3], program[3])
        self.assertEqual(knowing(order, program, [[0, [1, 2], 3]] * 2, 0, "low", 3)[0], [0, 1])
        self.assertEqual(broken(order, program), [rule for rule in rules(program) if rule[3:] == ("box s", "box a")])


if __name__ == "__main__":
    unittest.main()
