import random
import unittest

from helpers import CHAIN, DIAMOND, is_road, keeps_to_itself, made_of, made_up, program_of
from helpers import sample_program, SAMPLE_NAMES, SAMPLE_PAIRS
from hushwise.looker import broken, found, lets_by, reasons, road, told_ranks
from hushwise.orders import Order
from hushwise.rules import nodes, rules


def roads_from(some, told, begin):
    """Every road that begins at a told node, each as a list of rules, straight from what a road is."""
    roads = []
    still = [[rule] for rule in some if rule[3] == begin]
    while still:
        way = still.pop()
        roads.append(way)
        met = [rule[4] for rule in way]
        if met[-1] not in told:
            still.extend(way + [rule] for rule in some
                         if rule[3] == met[-1] and rule[4] not in met and (rule[4] != begin or rule[4] in told))
    return roads


def reached(some, told):
    """The pairs (told node, node) that a road leads from and to, by pairs put together over untold nodes."""
    after = {}
    for rule in some:
        after.setdefault(rule[3], set()).add(rule[4])
    pairs = set()
    for begin in told:
        still = list(after.get(begin, ()))
        while still:
            node = still.pop()
            if (begin, node) not in pairs:
                pairs.add((begin, node))
                still.extend(() if node in told else after.get(node, ()))
    return pairs


class Looking(unittest.TestCase):
    def is_road_to(self, order, program, rule):
        """That a right road is told to a broken rule."""
        told = told_ranks(order, program)
        way = road(order, program, rule)
        is_road(self, program, told, way)
        self.assertEqual(way[-1], rule)
        self.assertIn(rule[4], told)
        self.assertFalse(order.under(told[way[0][3]], told[rule[4]]))
        return way

    def are_reasons(self, order, program, node):
        """That right reasons are told of a node."""
        told = told_ranks(order, program)
        ways = reasons(order, program, node)
        self.assertIsInstance(ways, list)
        if node in told:
            self.assertEqual(ways, [])
            return ways
        for way in ways:
            is_road(self, program, told, way)
            self.assertEqual(way[-1][4], node)
        ranks = [told[way[0][3]] for way in ways]
        self.assertEqual(len(ranks), len(set(ranks)))
        self.assertEqual(order.joined(ranks), found(order, program)[node])
        return ways

    def looked_at(self, order, program, wanted):
        """That just these rules are broken, and all that hangs on it."""
        self.assertEqual(broken(order, program), wanted)
        self.assertIs(lets_by(order, program), not wanted)
        for rule in rules(program):
            if rule in wanted:
                self.is_road_to(order, program, rule)
            else:
                self.assertIsNone(road(order, program, rule))
        for node in nodes(program):
            self.are_reasons(order, program, node)


class ToldRanks(unittest.TestCase):
    def test_none(self):
        order, program = made_of("ranks low", "box a ?", "list r 3 ?", "def f ? x ?", "set f x", "end", "call a f a")
        self.assertEqual(told_ranks(order, program), {})

    def test_boxes_functions_and_parameters(self):
        order, program = made_of(*CHAIN, "box a low", "box b ?", "list r 3 mid", "list q 1 ?", "def f high x ? y low", "end",
                                 "def g ? z mid", "end")
        self.assertEqual(told_ranks(order, program), {
            "box a": "low", "box r": "mid", "box f": "high", "box y": "low", "box z": "mid"})

    def test_outs_by_the_grant_of_their_who(self):
        order, program = made_of(*CHAIN, "may cid low mid", "box a ?", "def f ?", "out f bob 1", "end", "out a ann 1",
                                 "if a", "out a bob 2", "else", "while a", "out a cid 3", "end", "end")
        self.assertEqual(told_ranks(order, program), {
            "let 0": "mid", "out 0": "low", "let 1": "high", "out 1": "low", "let 3": "mid", "out 3": "low",
            "let 5": "low", "out 5": "mid"})

    def test_a_grant_that_nobody_uses(self):
        order, program = made_of(*CHAIN, "box ann low", "set ann 1")
        self.assertEqual(told_ranks(order, program), {"box ann": "low"})


class Found(Looking):
    def ranks(self, order, program, **wanted):
        told = found(order, program)
        self.assertEqual(sorted(told), nodes(program))
        self.assertEqual({name: told["box " + name] for name in wanted}, wanted)
        return told

    def test_no_road_leads_there(self):
        order, program = made_of(*DIAMOND, "box a left", "box b ?", "set a b")
        told = self.ranks(order, program, a="left", b="least")
        self.assertEqual(set(told.values()), {"left", "least"})
        self.assertEqual(reasons(order, program, "box b"), [])

    def test_told_ranks_stay_whatever_leads_there(self):
        order, program = made_of(*CHAIN, "box s high", "box a low", "box b ?", "set a s", "set b a")
        self.ranks(order, program, s="high", a="low", b="low")

    def test_values_over_untold_boxes(self):
        order, program = made_of(*CHAIN, "box a mid", "box b ?", "box c ?", "box d ?", "set d c", "set c b", "set b a")
        self.ranks(order, program, a="mid", b="mid", c="mid", d="mid")
        self.assertEqual([rule[3:] for rule in self.are_reasons(order, program, "box d")[0]], [
            ("box a", "box b"), ("box b", "box c"), ("box c", "box d")])

    def test_a_told_box_in_between_lets_nothing_through(self):
        order, program = made_of(*CHAIN, "box s high", "box m mid", "box b ?", "set m s", "set b m")
        self.ranks(order, program, b="mid")
        self.assertEqual(self.are_reasons(order, program, "box b"), [[(1, 1, "value", "box m", "box b")]])

    def test_joins(self):
        order, program = made_of(*DIAMOND, "box a left", "box b right", "box c ?", "box d ?", "set c + a b", "set d 1")
        self.ranks(order, program, c="top", d="least")
        self.assertEqual(sorted(self.are_reasons(order, program, "box c")), [
            [(0, 1, "value", "box a", "box c")], [(0, 1, "value", "box b", "box c")]])

    def test_many_begins_of_one_rank(self):
        order, program = made_of(*DIAMOND, "box a left", "box b left", "box d least", "box c ?", "set c + + a b d")
        self.ranks(order, program, c="left")
        ways = self.are_reasons(order, program, "box c")
        self.assertEqual([way for way in ways if way[0][3] != "box d"][0][0][0], 0)

    def test_rings_of_rules(self):
        order, program = made_of(*DIAMOND, "box a ?", "box b ?", "box c ?", "box s left", "box t right", "set a b", "set b c",
                                 "set c a", "set b s")
        self.ranks(order, program, a="left", b="left", c="left")
        order, program = made_of(*DIAMOND, "box a ?", "box b ?", "box c ?", "box s left", "box t right", "set a + a b",
                                 "set b + c t", "set c + a s")
        self.ranks(order, program, a="top", b="top", c="top")
        for node in ("box a", "box b", "box c"):
            self.assertEqual(len(self.are_reasons(order, program, node)), 2)

    def test_a_ring_that_nothing_leads_to(self):
        order, program = made_of(*DIAMOND, "box a ?", "box b ?", "box s top", "set a b", "set b a")
        self.ranks(order, program, a="least", b="least")

    def test_by_a_choice(self):
        order, program = made_of(*CHAIN, "box s high", "box a ?", "box b ?", "if s", "set a 1", "else", "end", "set b 1")
        told = self.ranks(order, program, a="high", b="low")
        self.assertEqual([told[f"at {k}"] for k in range(3)], ["low", "high", "low"])

    def test_by_how_long_something_goes_on(self):
        order, program = made_of(*CHAIN, "box s high", "box a ?", "box b ?", "set a 1", "while s", "end", "set b 1")
        told = self.ranks(order, program, a="low", b="high")
        self.assertEqual(told["leave main"], "high")

    def test_by_a_call(self):
        order, program = made_of(*CHAIN, "box s high", "box a ?", "box b ?", "def f ? x ? y ?", "set f y", "end",
                                 "call a f s 1", "set b 1")
        told = self.ranks(order, program, x="high", y="low", f="low", a="low", b="low")
        self.assertEqual(told["leave f"], "low")

    def test_by_how_long_a_call_goes_on(self):
        order, program = made_of(*CHAIN, "box s high", "box a ?", "box b ?", "def f ? x ?", "while x", "set x - x 1", "end",
                                 "end", "call a f s", "set b 1")
        told = self.ranks(order, program, x="high", f="low", a="high", b="high")
        self.assertEqual((told["leave f"], told["enter f"], told["leave main"]), ("high", "low", "high"))

    def test_let_out(self):
        order, program = made_of(*CHAIN, "box s high", "box a ?", "out a ann s")
        told = self.ranks(order, program, a="low")
        self.assertEqual((told["let 0"], told["out 0"]), ("high", "low"))
        self.looked_at(order, program, [])

    def test_an_order_of_one_rank(self):
        order, program = made_of("ranks only", "box a only", "box b ?", "while a", "set b a", "end")
        self.assertEqual(set(found(order, program).values()), {"only"})
        self.looked_at(order, program, [])

    def test_by_every_road(self):
        chance = random.Random(21)
        looked = 0
        while looked < 120:
            order, program, maker = made_up(chance)
            some = rules(program)
            if len(some) > 16:
                continue
            looked += 1
            told = told_ranks(order, program)
            begins = {node: [] for node in nodes(program)}
            for begin in told:
                for way in roads_from(some, told, begin):
                    is_road(self, program, told, way)
                    begins[way[-1][4]].append(told[begin])
            wanted = {node: told.get(node, order.joined(ranks)) for node, ranks in begins.items()}
            self.assertEqual(found(order, program), wanted)


class Broken(Looking):
    def test_let_by(self):
        for lines in ((), ("set s 1", "set a 1"), ("set s a",), ("if a", "set s 1", "else", "end"), ("if s", "else", "end"),
                      ("if s", "set s a", "else", "set s 1", "end", "set a 1"), ("out a ann s",), ("put r s a",),
                      ("set a 1", "while s", "end"), ("while a", "set s + s 1", "end", "set a 1")):
            order, program = made_of(*CHAIN, "box a low", "box s high", "list r 2 high", *lines)
            self.looked_at(order, program, [])

    def test_by_a_value(self):
        order, program = made_of(*CHAIN, "box a low", "box s high", "set a 1", "set a + s 1")
        self.looked_at(order, program, [(1, 1, "value", "box s", "box a")])
        self.assertEqual(road(order, program, (1, 1, "value", "box s", "box a")), [(1, 1, "value", "box s", "box a")])

    def test_by_a_place(self):
        order, program = made_of(*CHAIN, "list r 2 low", "box s high", "put r s 1", "put r 1 s")
        self.looked_at(order, program, [(0, 1, "value", "box s", "box r"), (1, 1, "value", "box s", "box r")])

    def test_by_untold_boxes(self):
        order, program = made_of(*CHAIN, "box a low", "box b ?", "box c ?", "box s high", "set b s", "set c b", "set a c")
        last = (2, 1, "value", "box c", "box a")
        self.looked_at(order, program, [last])
        self.assertEqual(road(order, program, last), [
            (0, 1, "value", "box s", "box b"), (1, 1, "value", "box b", "box c"), last])

    def test_by_a_choice(self):
        order, program = made_of(*CHAIN, "box a low", "box s high", "if s", "set a 1", "else", "set a 2", "end", "set a 3")
        self.looked_at(order, program, [(1, 1, "done", "at 1", "box a"), (2, 1, "done", "at 2", "box a")])
        self.assertEqual(road(order, program, (1, 1, "done", "at 1", "box a")), [
            (1, 0, "choice", "box s", "at 1"), (1, 1, "done", "at 1", "box a")])

    def test_by_how_long_something_goes_on(self):
        order, program = made_of(*CHAIN, "box a low", "box s high", "if a", "while s", "set s - s 1", "end", "else", "end",
                                 "set a 3")
        last = (3, 1, "done", "at 3", "box a")
        self.looked_at(order, program, [last])
        self.assertEqual(road(order, program, last), [
            (1, 0, "turns", "box s", "at 1"), (3, 0, "behind", "at 1", "at 3"), last])

    def test_by_a_call_and_what_it_tells(self):
        order, program = made_of(*CHAIN, "box a low", "box s high", "def f low x high", "set f 1", "if x", "call f f 0",
                                 "else", "end", "end", "call a f s")
        self.assertFalse(lets_by(order, program))
        self.looked_at(order, program, [
            (0, 1, "done", "at 0", "box f"), (2, 2, "back", "at 2", "box f"), (2, 2, "back", "leave f", "box f"),
            (3, 2, "back", "leave f", "box a")])

    def test_by_parameters(self):
        order, program = made_of(*CHAIN, "box a low", "box s high", "def f ? x low y mid", "end", "call a f a s", "call a f s a")
        self.looked_at(order, program, [(0, 1, "value", "box s", "box y"), (1, 1, "value", "box s", "box x")])

    def test_outs(self):
        order, program = made_of(*CHAIN, "box a low", "box s high", "box m mid", "out a bob s", "out a bob m", "out a ann s",
                                 "if m", "out a ann 1", "else", "end")
        self.looked_at(order, program, [(0, 1, "let", "box s", "let 0"), (4, 1, "done", "at 4", "box a")])

    def test_an_out_whose_low_is_too_high(self):
        order, program = made_of(*CHAIN, "may cid low high", "box a mid", "box s high", "out a cid 1", "out s cid 1")
        self.looked_at(order, program, [(0, 1, "out", "out 0", "box a")])

    def test_ranks_that_are_not_under_one_another(self):
        order, program = made_of(*DIAMOND, "box a left", "box b right", "box c ?", "box t top", "set c + a b", "set a b",
                                 "set b a", "set a c", "set t c")
        self.looked_at(order, program, [(1, 1, "value", "box b", "box a"), (2, 1, "value", "box a", "box b"),
                                        (3, 1, "value", "box c", "box a")])
        way = road(order, program, (3, 1, "value", "box c", "box a"))
        self.assertEqual(way[0], (0, 1, "value", "box b", "box c"))

    def test_none_is_told_for_what_is_no_rule_of_the_program(self):
        order, program = made_of(*CHAIN, "box a low", "box s high", "set a 1", "set a s")
        self.assertEqual(broken(order, program), [(1, 1, "value", "box s", "box a")])
        for odd in ((0, 1, "value", "box s", "box a"), (1, 0, "value", "box s", "box a"), (1, 1, "let", "box s", "box a"),
                    (1, 1, "value", "box a", "box s"), (1, 1, "done", "box s", "box a"), (7, 1, "value", "box s", "box a"),
                    (1, 1, "value", "box x", "box a"), (1, 1, "value", "box s", "box x"), (1, 1, "value", "box s", "out 1")):
            self.assertIsNone(road(order, program, odd))

    def test_rows_by_tens_stand_sorted(self):
        order, program = made_of(*CHAIN, "box a low", "box s high", *(["set a s"] * 12))
        self.looked_at(order, program, [(k, 1, "value", "box s", "box a") for k in range(12)])

    def test_reasons_of_told_nodes(self):
        order, program = made_of(*CHAIN, "box a low", "box s high", "out a bob s", "set a s")
        for node in ("box a", "box s", "let 0", "out 0"):
            self.assertEqual(reasons(order, program, node), [])


class MadeUp(Looking):
    def test_all_that_is_told(self):
        chance = random.Random(22)
        by = []
        for turn in range(70):
            order, program, maker = made_up(chance, chance.choice([0.2, 0.5, 0.9]))
            told = told_ranks(order, program)
            leads = reached(rules(program), told)
            ranks = {node: told.get(node, order.joined([told[begin] for begin, end in leads if end == node]))
                     for node in nodes(program)}
            self.assertEqual(found(order, program), ranks)
            self.looked_at(order, program, [
                rule for rule in rules(program) if not order.under(ranks[rule[3]], ranks[rule[4]])])
            by.append(lets_by(order, program))
        self.assertGreater(min(by.count(True), by.count(False)), 20)

    def test_found_ranks_are_the_least_that_the_rules_allow(self):
        chance = random.Random(23)
        for turn in range(150):
            order, program, maker = made_up(chance)
            told = told_ranks(order, program)
            ranks = {node: told.get(node, chance.choice(order.ranks() + [order.least()] * 9)) for node in nodes(program)}
            some = rules(program)
            for again in nodes(program):
                for rule in some:
                    if rule[4] not in told:
                        ranks[rule[4]] = order.join(ranks[rule[4]], ranks[rule[3]])
            for node, rank in found(order, program).items():
                self.assertTrue(order.under(rank, ranks[node]))


class Own(unittest.TestCase):
    def kept(self, order, program):
        for ask in (told_ranks, found, broken, lets_by):
            keeps_to_itself(self, lambda one: ask(order, one), program)
        for rule in rules(program):
            keeps_to_itself(self, lambda one: road(order, one, rule), program)
        for node in nodes(program):
            keeps_to_itself(self, lambda one: reasons(order, one, node), program)

    def test_the_sample(self):
        self.kept(Order(SAMPLE_NAMES, SAMPLE_PAIRS), sample_program())

    def test_made_up_programs(self):
        chance = random.Random(25)
        for turn in range(10):
            self.kept(*made_up(chance)[:2])

    def test_what_is_told_of_one_question_changes_no_other(self):
        order, program = made_of(*CHAIN, "box a low", "box b ?", "box s high", "set b s", "set a b")
        rule = (1, 1, "value", "box b", "box a")
        ranks = found(order, program)
        told_ranks(order, program)["box b"] = "low"
        found(order, program).clear()
        road(order, program, rule).clear()
        for way in reasons(order, program, "box b"):
            way.clear()
        self.assertEqual(found(order, program), ranks)
        self.assertEqual(broken(order, program), [rule])
        self.assertEqual(road(order, program, rule), [(0, 1, "value", "box s", "box b"), rule])

    def test_what_is_done_to_the_program_later_changes_nothing_told(self):
        program = program_of("box a low", "box s high", "set a s")
        order = Order(["low", "high"], [("low", "high")])
        rule = (0, 1, "value", "box s", "box a")
        told = (found(order, program), broken(order, program), road(order, program, rule))
        program[3].clear()
        program[0].clear()
        self.assertEqual(told[0], {"at 0": "low", "box a": "low", "box s": "high", "enter main": "low", "leave main": "low"})
        self.assertEqual(told[1:], ([rule], [rule]))
        self.assertEqual(broken(order, program), [])


if __name__ == "__main__":
    unittest.main()
