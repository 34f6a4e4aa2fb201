import copy
import random
import unittest

from helpers import CHAIN, DIAMOND, keeps_to_itself, made_of, made_up, own_lists, sample_program
from helpers import SAMPLE_NAMES, SAMPLE_PAIRS
from hushwise.looker import found, lets_by
from hushwise.menders import hushed
from hushwise.orders import Order
from hushwise.programs import numbered
from hushwise.runner import run
from hushwise.sides import alike, beside, knowing, seen


def shows(order, program, record, rank):
    """The places and events of a record that a rank is shown, one by one."""
    ranks = found(order, program)
    return [(place, event) for place, event in enumerate(record) if order.under(ranks["box " + event[1]], rank)]


def beside_by_words(order, program, one, other, rank, budget):
    """Two runs laid side by side: the pairs are taken off the heads of both lists as long as they are the same."""
    first = shows(order, program, run(program, one, budget)[1], rank)
    second = shows(order, program, run(program, other, budget)[1], rank)
    pairs = []
    while first and second and first[0][1] == second[0][1]:
        pairs.append((first.pop(0)[0], second.pop(0)[0]))
    if not first and not second:
        return (pairs, None)
    return (pairs, (first[0][0] if first else None, second[0][0] if second else None))


def knowing_by_words(order, program, inputs, at, rank, budget):
    """What is known: which inputs' runs begin, for the rank, as the one that is run."""
    lists = [[event for place, event in shows(order, program, run(program, values, budget)[1], rank)] for values in inputs]
    close = [alike(order, program, values, inputs[at], rank) for values in inputs]
    return [[k for k in range(len(inputs)) if close[k] and lists[k][:count] == lists[at][:count]]
            for count in range(len(lists[at]) + 1)]


class Seen(unittest.TestCase):
    def test_no_events(self):
        for lines in ((), ("box a low",), ("box a low", "set a 1")):
            order, program = made_of(*CHAIN, *lines)
            for rank in order.ranks():
                self.assertEqual(seen(order, program, [], rank), [])

    def test_told_ranks(self):
        order, program = made_of(*CHAIN, "box a low", "box m mid", "box s high", "set a 1", "set m 2", "set s 3", "set a 4")
        record = [(0, "a", 0, 1), (1, "m", 0, 2), (2, "s", 0, 3), (3, "a", 0, 4)]
        self.assertEqual(seen(order, program, record, "low"), [record[0], record[3]])
        self.assertEqual(seen(order, program, record, "mid"), [record[0], record[1], record[3]])
        self.assertEqual(seen(order, program, record, "high"), record)

    def test_found_ranks(self):
        order, program = made_of(*CHAIN, "box b ?", "box c ?", "box s high", "set b s", "set c 1")
        record = run(program, [1, 2, 3], 0)[1]
        self.assertEqual(seen(order, program, record, "low"), [(1, "c", 0, 1)])
        self.assertEqual(seen(order, program, record, "mid"), [(1, "c", 0, 1)])
        self.assertEqual(seen(order, program, record, "high"), record)

    def test_functions_and_parameters(self):
        order, program = made_of(*CHAIN, "box a high", "def f mid x low y ?", "set f + x y", "set x 9", "end", "call a f 1 a")
        record = run(program, [5], 1)[1]
        self.assertEqual(record, [(2, "x", 0, 1), (2, "y", 0, 5), (0, "f", 0, 6), (1, "x", 0, 9), (2, "a", 0, 6)])
        self.assertEqual(seen(order, program, record, "low"), [record[0], record[3]])
        self.assertEqual(seen(order, program, record, "mid"), [record[0], record[2], record[3]])
        self.assertEqual(seen(order, program, record, "high"), record)

    def test_ranks_side_by_side(self):
        order, program = made_of(*DIAMOND, "box l left", "box r right", "box o least", "box t top")
        record = [(0, name, 0, 1) for name in "lrotlr"]
        wanted = {"left": "lol", "right": "ror", "least": "o", "top": "lrotlr"}
        for rank, names in wanted.items():
            self.assertEqual([event[1] for event in seen(order, program, record, rank)], list(names))

    def test_any_record_of_the_programs_boxes(self):
        order, program = made_of(*CHAIN, "box a low", "list r 3 low", "box s high", "def f high x low", "end")
        record = [(77, "r", 2, 5), (77, "r", 2, 5), (0, "s", 0, 0), (3, "x", 0, 10 ** 12 - 1), (2, "f", 0, 1), (0, "a", 0, 0)]
        self.assertEqual(seen(order, program, record, "low"), [record[0], record[1], record[3], record[5]])


class Alike(unittest.TestCase):
    def alike(self, lines, one, other, **wanted):
        order, program = made_of(*lines)
        for rank in order.ranks():
            for some in ((one, other), (other, one)):
                self.assertIs(alike(order, program, *some, rank), wanted[rank])
            self.assertIs(alike(order, program, one, copy.deepcopy(one), rank), True)

    def test_told_ranks(self):
        lines = CHAIN + ("box a low", "box m mid", "box s high")
        self.alike(lines, [1, 2, 3], [1, 2, 3], low=True, mid=True, high=True)
        self.alike(lines, [1, 2, 3], [1, 2, 4], low=True, mid=True, high=False)
        self.alike(lines, [1, 2, 3], [1, 3, 3], low=True, mid=False, high=False)
        self.alike(lines, [1, 2, 3], [0, 2, 3], low=False, mid=False, high=False)
        self.alike(lines, [1, 2, 3], [1, 3, 2], low=True, mid=False, high=False)

    def test_list_boxes(self):
        lines = CHAIN + ("list r 3 mid", "box a low")
        self.alike(lines, [[1, 2, 3], 4], [[1, 2, 3], 4], low=True, mid=True, high=True)
        for some in ([0, 2, 3], [1, 0, 3], [1, 2, 0], [3, 2, 1]):
            self.alike(lines, [[1, 2, 3], 4], [some, 4], low=True, mid=False, high=False)

    def test_found_ranks(self):
        lines = CHAIN + ("box b ?", "box c ?", "box s high", "set b s")
        self.alike(lines, [1, 2, 3], [9, 2, 3], low=True, mid=True, high=False)
        self.alike(lines, [1, 2, 3], [1, 9, 3], low=False, mid=False, high=False)

    def test_ranks_side_by_side(self):
        lines = DIAMOND + ("box l left", "box r right")
        self.alike(lines, [1, 2], [9, 2], left=False, right=True, least=True, top=False)
        self.alike(lines, [1, 2], [1, 9], left=True, right=False, least=True, top=False)
        self.alike(lines, [1, 2], [2, 1], left=False, right=False, least=True, top=False)

    def test_no_boxes(self):
        self.alike(CHAIN, [], [], low=True, mid=True, high=True)
        self.alike(CHAIN + ("def f high x low", "end"), [], [], low=True, mid=True, high=True)


class Beside(unittest.TestCase):
    def laid(self, lines, one, other, rank, budget, pairs, part):
        """That two runs are told so side by side, and the other way about; each beside itself parts nowhere."""
        order, program = made_of(*lines)
        self.assertEqual(beside(order, program, one, other, rank, budget), (pairs, part))
        turned = ([(there, here) for here, there in pairs], None if part is None else (part[1], part[0]))
        self.assertEqual(beside(order, program, other, one, rank, budget), turned)
        for values in (one, other):
            places = [place for place, event in shows(order, program, run(program, values, budget)[1], rank)]
            self.assertEqual(beside(order, program, values, list(values), rank, budget), (
                [(place, place) for place in places], None))

    def test_no_events(self):
        self.laid(CHAIN, [], [], "low", 0, [], None)
        self.laid(CHAIN + ("box a low", "box s high"), [1, 2], [3, 4], "high", 0, [], None)
        self.laid(CHAIN + ("box a low", "box s high", "set s 1"), [1, 2], [3, 4], "low", 0, [], None)

    def test_runs_that_do_not_part(self):
        lines = CHAIN + ("box a low", "box s high", "set a 1", "set s + s 1", "set a 2")
        self.laid(lines, [1, 2], [3, 4], "low", 0, [(0, 0), (2, 2)], None)
        self.laid(lines, [1, 2], [3, 4], "high", 0, [(0, 0)], (1, 1))

    def test_runs_that_part_in_a_value(self):
        lines = CHAIN + ("box a low", "box s high", "set a 1", "out a ann s", "set a 2")
        self.laid(lines, [0, 5], [0, 6], "low", 0, [(0, 0)], (1, 1))
        self.laid(lines, [0, 5], [3, 5], "low", 0, [(0, 0), (1, 1), (2, 2)], None)

    def test_runs_that_part_in_the_row(self):
        lines = CHAIN + ("box a low", "box s high", "if s", "set a 1", "else", "set a 1", "end")
        self.laid(lines, [0, 1], [0, 0], "low", 0, [], (0, 0))

    def test_runs_that_part_in_the_place(self):
        lines = CHAIN + ("list r 2 low", "box s high", "put r s 1")
        self.laid(lines, [[0, 0], 1], [[0, 0], 0], "low", 0, [], (0, 0))
        self.laid(lines, [[0, 0], 1], [[0, 0], 2], "low", 0, [], (0, None))

    def test_one_shows_more(self):
        lines = CHAIN + ("box a low", "box s high", "while s", "set a 1", "set s - s 1", "end")
        self.laid(lines, [0, 3], [0, 1], "low", 9, [(0, 0)], (2, None))
        self.laid(lines, [0, 3], [0, 0], "low", 9, [], (0, None))
        self.laid(lines, [0, 3], [0, 2], "low", 2, [(0, 0), (2, 2)], None)
        self.laid(lines, [0, 3], [0, 2], "low", 3, [(0, 0), (2, 2)], (4, None))

    def test_places_in_records_of_another_length(self):
        lines = CHAIN + ("box a low", "box s high", "set a 7", "if s", "set s 1", "set s 2", "else", "set s 3", "end",
                         "set a 8", "out a ann s")
        self.laid(lines, [0, 1], [0, 0], "low", 0, [(0, 0), (3, 2)], (4, 3))
        self.laid(lines, [0, 1], [5, 4], "low", 0, [(0, 0), (3, 3), (4, 4)], None)

    def test_functions_and_parameters(self):
        lines = CHAIN + ("box a low", "box s high", "def f ? x ? y low", "set f x", "end", "call s f s a", "set a 1")
        self.laid(lines, [4, 5], [4, 6], "low", 1, [(1, 1), (4, 4)], None)
        self.laid(lines, [4, 5], [4, 6], "mid", 1, [(1, 1), (4, 4)], None)
        self.laid(lines, [4, 5], [4, 6], "high", 1, [], (0, 0))
        self.laid(lines, [4, 5], [3, 5], "low", 1, [], (1, 1))

    def test_ranks_side_by_side(self):
        lines = DIAMOND + ("box l left", "box r right", "set l + l 1", "set r + r 1")
        self.laid(lines, [1, 1], [1, 2], "left", 0, [(0, 0)], None)
        self.laid(lines, [1, 1], [1, 2], "right", 0, [], (1, 1))
        self.laid(lines, [1, 1], [1, 2], "top", 0, [(0, 0)], (1, 1))
        self.laid(lines, [1, 1], [1, 2], "least", 0, [], None)

    def test_one_that_is_spent_and_one_that_is_done(self):
        lines = CHAIN + ("box a low", "box s high", "set a 1", "while s", "end", "set a 2")
        self.laid(lines, [0, 0], [0, 1], "low", 5, [(0, 0)], (1, None))

    def test_made_up_programs(self):
        chance = random.Random(41)
        parts = []
        for turn in range(250):
            order, program, maker = made_up(chance, busy=turn % 2)
            one, other = maker.values(program), maker.values(program)
            for rank in order.ranks():
                budget = chance.choice([0, 1, 3, 20])
                told = beside(order, program, one, other, rank, budget)
                self.assertEqual(told, beside_by_words(order, program, one, other, rank, budget))
                record = run(program, one, budget)[1]
                self.assertEqual(seen(order, program, record, rank), [
                    event for place, event in shows(order, program, record, rank)])
                parts.append(told[1] and [place is None for place in told[1]])
        for part in (None, [False, False], [True, False], [False, True]):
            self.assertGreater(parts.count(part), 10)


class Knowing(unittest.TestCase):
    def known(self, lines, inputs, at, rank, budget, wanted):
        order, program = made_of(*lines)
        told = knowing(order, program, inputs, at, rank, budget)
        self.assertEqual(told, wanted)
        self.assertEqual(told, knowing_by_words(order, program, inputs, at, rank, budget))
        own_lists(self, told, inputs)

    def test_one_input(self):
        lines = CHAIN + ("box a low", "box s high", "set a 1", "out a ann s")
        self.known(lines, [[4, 5]], 0, "low", 0, [[0], [0], [0]])
        self.known(CHAIN, [[]], 0, "low", 0, [[0]])

    def test_alike_at_first(self):
        lines = CHAIN + ("box a low", "box m mid", "box s high")
        inputs = [[1, 2, 3], [1, 2, 4], [1, 3, 3], [2, 2, 3]]
        self.known(lines, inputs, 0, "low", 0, [[0, 1, 2]])
        self.known(lines, inputs, 0, "mid", 0, [[0, 1]])
        self.known(lines, inputs, 0, "high", 0, [[0]])
        self.known(lines, inputs, 3, "low", 0, [[3]])
        self.known(lines, inputs, 2, "mid", 0, [[2]])
        self.known(lines, inputs, 1, "low", 0, [[0, 1, 2]])

    def test_fewer_behind_an_out(self):
        lines = CHAIN + ("box a low", "box s high", "set a 1", "out a ann < s 5", "set a 2", "out a ann < s 3", "set a 3")
        inputs = [[0, s] for s in range(8)]
        self.known(lines, inputs, 1, "low", 0, [
            [0, 1, 2, 3, 4, 5, 6, 7], [0, 1, 2, 3, 4, 5, 6, 7], [0, 1, 2, 3, 4], [0, 1, 2, 3, 4], [0, 1, 2], [0, 1, 2]])
        self.known(lines, inputs, 3, "low", 0, [
            [0, 1, 2, 3, 4, 5, 6, 7], [0, 1, 2, 3, 4, 5, 6, 7], [0, 1, 2, 3, 4], [0, 1, 2, 3, 4], [3, 4], [3, 4]])
        self.known(lines, inputs, 7, "low", 0, [
            [0, 1, 2, 3, 4, 5, 6, 7], [0, 1, 2, 3, 4, 5, 6, 7], [5, 6, 7], [5, 6, 7], [5, 6, 7], [5, 6, 7]])
        self.known(lines, inputs, 3, "high", 0, [[3]] * 6)

    def test_nothing_changes_behind_an_out_of_what_is_the_same(self):
        lines = CHAIN + ("box a low", "box s high", "out a ann < s 50", "out a ann a")
        self.known(lines, [[0, s] for s in range(4)], 2, "low", 0, [[0, 1, 2, 3]] * 3)

    def test_twelve_inputs_and_the_same_more_than_once(self):
        lines = CHAIN + ("box a low", "box s high", "out a ann < s 2")
        inputs = [[0, s] for s in (0, 1, 2, 3, 0, 1, 2, 3, 0, 1, 2, 3)]
        self.known(lines, inputs, 5, "low", 0, [list(range(12)), [0, 1, 4, 5, 8, 9]])
        self.known(lines, inputs, 5, "high", 0, [[1, 5, 9], [1, 5, 9]])
        self.known(lines, [[3, 4]] * 12, 11, "low", 0, [list(range(12))] * 2)
        same = [3, 4]
        self.known(lines, [same, same, [3, 1], same], 0, "low", 0, [[0, 1, 2, 3], [0, 1, 3]])

    def test_a_run_that_shows_more_than_the_other(self):
        lines = CHAIN + ("box a low", "box s high", "while s", "set a 1", "set s - s 1", "end")
        inputs = [[0, s] for s in range(4)]
        self.known(lines, inputs, 2, "low", 9, [[0, 1, 2, 3], [1, 2, 3], [2, 3]])
        self.known(lines, inputs, 0, "low", 9, [[0, 1, 2, 3]])
        self.known(lines, inputs, 3, "low", 2, [[0, 1, 2, 3], [1, 2, 3], [2, 3]])

    def test_an_unlike_event_counts_also_where_later_ones_are_the_same(self):
        lines = CHAIN + ("box a low", "box s high", "out a ann s", "set a 1", "set a 2")
        self.known(lines, [[0, 1], [0, 2], [0, 1]], 0, "low", 0, [[0, 1, 2], [0, 2], [0, 2], [0, 2]])

    def test_made_up_programs(self):
        chance = random.Random(42)
        fewer = 0
        for turn in range(200):
            order, program, maker = made_up(chance, busy=turn % 3)
            program = hushed(order, program) if turn % 4 else program
            base = maker.values(program)
            inputs = [[chance.choice([old, new]) for old, new in zip(base, maker.values(program))]
                      for k in range(chance.choice([1, 5, 12, 12]))]
            at = chance.randrange(len(inputs))
            for rank in order.ranks():
                told = knowing(order, program, inputs, at, rank, 3)
                self.assertEqual(told, knowing_by_words(order, program, inputs, at, rank, 3))
                self.assertTrue(all(at in some and some == sorted(set(some)) for some in told))
                fewer += self.changed_at_outs(order, program, run(program, inputs[at], 3)[1], rank, told)
        self.assertGreater(fewer, 10)

    def changed_at_outs(self, order, program, record, rank, told):
        """How many lists are unlike the one ahead; that they are so at outs alone, where the program is let by."""
        events = seen(order, program, record, rank)
        self.assertEqual(len(told), len(events) + 1)
        rows = [event[0] for event, one, following in zip(events, told, told[1:]) if one != following]
        if not lets_by(order, program):
            return 0
        self.assertTrue(all(numbered(program)[k][3][0] == "out" for k in rows))
        return len(rows)


class Own(unittest.TestCase):
    def kept(self, order, program, one, other):
        record = run(program, one, 4)[1]
        for rank in order.ranks():
            keeps_to_itself(self, lambda a, b: seen(order, a, b, rank), program, record)
            keeps_to_itself(self, lambda a, b, c: alike(order, a, b, c, rank), program, one, other)
            keeps_to_itself(self, lambda a, b, c: beside(order, a, b, c, rank, 4), program, one, other)
            keeps_to_itself(self, lambda a, b: knowing(order, a, b, 1, rank, 4), program, [one, other, one])

    def test_the_sample(self):
        self.kept(Order(SAMPLE_NAMES, SAMPLE_PAIRS), sample_program(), [1, 2, [0] * 8, [3], 4], [1, 3, [0] * 8, [3], 4])

    def test_made_up_programs(self):
        chance = random.Random(43)
        for turn in range(25):
            order, program, maker = made_up(chance)
            self.kept(order, program, maker.values(program), maker.values(program))


if __name__ == "__main__":
    unittest.main()
