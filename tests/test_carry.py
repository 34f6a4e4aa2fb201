import itertools
import random
import unittest

from helpers import CHAIN, DIAMOND, is_road, keeps_to_itself, made_of, made_up, own_lists, sample_program
from helpers import SAMPLE_NAMES, SAMPLE_PAIRS
from hushwise.carry import carried, own_road
from hushwise.errors import NoInput
from hushwise.looker import found, lets_by, told_ranks
from hushwise.orders import Order
from hushwise.rules import nodes, rules
from hushwise.runner import run, traced

LOW_HIGH = ("ranks low high", "under low high", "may ann high low", "may dan low low", "may eve high high")


def by_words(order, program, values, budget):
    """A run that carries ranks, moment by moment as the document's words tell it; the values by last events."""
    told = told_ranks(order, program)
    carries = {node: told.get(node, order.least()) for node in nodes(program)}
    word = run(program, values, budget)[0]
    record = []
    met = []
    for row, time, events in traced(program, values, budget):
        for rule in sorted(rule for rule in rules(program) if rule[0] == row and rule[1] == time):
            met.append(rule)
            if rule[4] not in told:
                carries[rule[4]] = order.joined([carries[rule[3]], carries[rule[4]]])
            elif not order.under(carries[rule[3]], told[rule[4]]):
                return ("stopped", record, held_behind(program, values, record), met, carries)
        record = record + [(row,) + event for event in events]
    return (word, record, held_behind(program, values, record), met, carries)


def held_behind(program, values, record):
    """What the boxes hold behind a record: the last that each was given, or what the input has."""
    told = []
    for (name, size, rank), thing in zip(program[0], values):
        held = [thing] if size == 0 else thing
        last = [[n] + [event[3] for event in record if event[1:3] == (name, place)] for place, n in enumerate(held)]
        told.append(last[0][-1] if size == 0 else [some[-1] for some in last])
    return told


class Carrying(unittest.TestCase):
    def carries(self, order, program, values, budget, word, record, end):
        """That a run that carries ranks is told so; the rules it met, and what the nodes carry."""
        told = carried(order, program, values, budget)
        self.assertIsInstance(told, tuple)
        self.assertEqual(told[:3], (word, record, end))
        self.assertEqual(told, by_words(order, program, values, budget))
        ranks = found(order, program)
        self.assertEqual(sorted(told[4]), nodes(program))
        for node, rank in told[4].items():
            self.assertTrue(order.under(rank, ranks[node]))
        return told[3], told[4]

    def stops(self, lines, values, budget, record, end, last):
        """That the run of lines behind a low and a high rank stops, and at which rule; what the nodes carry."""
        order, program = made_of(*LOW_HIGH, *lines)
        met, ranks = self.carries(order, program, values, budget, "stopped", record, end)
        self.assertEqual(met[-1], last)
        self.is_own_road(order, program, met, own_road(order, program, met))
        self.assertEqual(own_road(order, program, met)[-1], len(met) - 1)
        self.assertIsNone(own_road(order, program, met[:-1]))
        return ranks

    def goes_on(self, lines, values, budget, word):
        """That the run of lines behind a low and a high rank is the plain one; the rules met, and the ranks."""
        order, program = made_of(*LOW_HIGH, *lines)
        plain = run(program, values, budget)
        self.assertEqual(plain[0], word)
        met, ranks = self.carries(order, program, values, budget, *plain)
        self.assertIsNone(own_road(order, program, met))
        return met, ranks

    def is_own_road(self, order, program, met, places):
        """That places are an own road among rules."""
        told = told_ranks(order, program)
        self.assertIsInstance(places, list)
        self.assertTrue(all(one < following for one, following in zip(places, places[1:])))
        self.assertTrue(0 <= places[0] and places[-1] < len(met))
        way = [met[place] for place in places]
        is_road(self, program, told, way)
        self.assertIn(way[-1][4], told)
        self.assertFalse(order.under(told[way[0][3]], told[way[-1][4]]))


class Stops(Carrying):
    def test_a_set_by_a_value(self):
        ranks = self.stops(["box a low", "box s high", "set a s"], [4, 7], 0, [], [4, 7], (0, 1, "value", "box s", "box a"))
        self.assertEqual(ranks, {"box a": "low", "box s": "high", "at 0": "low", "enter main": "low", "leave main": "low"})

    def test_the_whole_that_is_told(self):
        order, program = made_of(*LOW_HIGH, "box a low", "box b ?", "box s high", "set b s", "set a b", "set a 9")
        self.assertEqual(carried(order, program, [1, 2, 3], 5), (
            "stopped", [(0, "b", 0, 3)], [1, 3, 3], [
                (0, 0, "enter", "enter main", "at 0"), (0, 1, "done", "at 0", "box b"), (0, 1, "value", "box s", "box b"),
                (1, 0, "behind", "at 0", "at 1"), (1, 1, "done", "at 1", "box a"), (1, 1, "value", "box b", "box a")],
            {"box a": "low", "box b": "high", "box s": "high", "at 0": "low", "at 1": "low", "at 2": "low",
             "enter main": "low", "leave main": "low"}))

    def test_what_came_ahead_stays(self):
        self.stops(["box a low", "box s high", "set a 1", "set s 8", "set a s", "set a 3"], [4, 7], 0,
                   [(0, "a", 0, 1), (1, "s", 0, 8)], [1, 8], (2, 1, "value", "box s", "box a"))

    def test_a_set_by_a_choice(self):
        lines = ["box a low", "box s high", "if s", "set a 1", "else", "end"]
        ranks = self.stops(lines, [4, 7], 0, [], [4, 7], (1, 1, "done", "at 1", "box a"))
        self.assertEqual((ranks["at 0"], ranks["at 1"]), ("low", "high"))

    def test_a_set_by_how_long_something_went_on(self):
        lines = ["box a low", "box s high", "while s", "set s - s 1", "end", "set a 1"]
        self.stops(lines, [4, 2], 5, [(1, "s", 0, 1), (1, "s", 0, 0)], [4, 0], (2, 1, "done", "at 2", "box a"))
        self.stops(lines, [4, 0], 0, [], [4, 0], (2, 1, "done", "at 2", "box a"))

    def test_a_put(self):
        for line, values in (("put r s 1", [[4, 5], 1]), ("put r 1 s", [[4, 5], 1]), ("put r s s", [[4, 5], 0])):
            lines = ["list r 2 low", "box s high", "put r 0 6", line]
            self.stops(lines, values, 0, [(0, "r", 0, 6)], [[6, 5], values[1]], (1, 1, "value", "box s", "box r"))

    def test_a_put_that_would_do_nothing(self):
        self.stops(["list r 2 low", "box s high", "put r s 1"], [[4, 5], 2], 0, [], [[4, 5], 2],
                   (0, 1, "value", "box s", "box r"))

    def test_an_out(self):
        self.stops(["box a low", "box s high", "out a dan s"], [4, 7], 0, [], [4, 7], (0, 1, "let", "box s", "let 0"))
        self.stops(["box a low", "box s high", "out a eve s"], [4, 7], 0, [], [4, 7], (0, 1, "out", "out 0", "box a"))
        self.stops(["box a low", "box s high", "if s", "out a ann 1", "else", "end"], [4, 7], 0, [], [4, 7],
                   (1, 1, "done", "at 1", "box a"))

    def test_a_call_ahead_of_its_parameters(self):
        lines = ["box a low", "box s high", "def f ? x low y low", "set f 1", "end", "set a 5", "call a f a s"]
        ranks = self.stops(lines, [4, 7], 1, [(1, "a", 0, 5)], [5, 7], (2, 1, "value", "box s", "box y"))
        self.assertEqual(ranks["box f"], "low")

    def test_a_call_that_is_done_where_it_may_not_be(self):
        lines = ["box a low", "box s high", "def f ? x low", "end", "if s", "call s f 1", "else", "end"]
        self.stops(lines, [4, 7], 1, [], [4, 7], (1, 1, "done", "at 1", "box x"))

    def test_a_call_as_it_comes_back(self):
        lines = ["box a low", "box s high", "def f ? x ?", "set f + x 1", "set s 0", "end", "call a f s"]
        record = [(2, "x", 0, 7), (0, "f", 0, 8), (1, "s", 0, 0)]
        ranks = self.stops(lines, [4, 7], 1, record, [4, 0], (2, 2, "back", "box f", "box a"))
        self.assertEqual((ranks["box x"], ranks["box f"], ranks["at 2"]), ("high", "high", "low"))

    def test_a_call_by_how_long_it_took(self):
        lines = ["box a low", "box s high", "def f ?", "while s", "set s 0", "end", "end", "call a f"]
        self.stops(lines, [4, 7], 2, [(1, "s", 0, 0)], [4, 0], (2, 2, "back", "leave f", "box a"))

    def test_a_call_that_came_back_where_it_may_not_be_done(self):
        lines = ["box a low", "box s high", "def f ?", "end", "if s", "call a f", "else", "end"]
        self.stops(lines, [4, 7], 1, [], [4, 7], (1, 2, "back", "at 1", "box a"))

    def test_within_a_call(self):
        lines = ["box a low", "box s high", "def f low x ?", "set f 3", "set a x", "end", "call a f s"]
        self.stops(lines, [4, 7], 1, [(2, "x", 0, 7), (0, "f", 0, 3)], [4, 7], (1, 1, "value", "box x", "box a"))

    def test_in_the_second_turn(self):
        lines = ["box a low", "box b ?", "box s high", "box n low", "while n", "set a b", "set b s", "set n - n 1", "end"]
        turn = [(1, "a", 0, 5), (2, "b", 0, 7), (3, "n", 0, 8)]
        self.stops(lines, [4, 5, 7, 9], 5, turn, [5, 7, 7, 8], (1, 1, "value", "box b", "box a"))
        self.goes_on(lines, [4, 5, 7, 1], 5, "done")
        self.goes_on(lines, [4, 5, 7, 9], 1, "spent")

    def test_at_the_first_of_several_rules(self):
        order, program = made_of(*LOW_HIGH, "box a low", "box s high", "box t high", "if s", "set a + t s", "else", "end")
        met, ranks = self.carries(order, program, [1, 2, 3], 0, "stopped", [], [1, 2, 3])
        self.assertEqual(met[-2:], [(1, 0, "within", "at 0", "at 1"), (1, 1, "done", "at 1", "box a")])

    def test_ranks_that_are_not_under_one_another(self):
        lines = ["box a left", "box b right", "box c ?", "box t top"]
        order, program = made_of(*DIAMOND, *lines, "set c a", "set a c", "set c b", "set t c", "set a c", "set t 1")
        met, ranks = self.carries(order, program, [1, 2, 3, 4], 0, "stopped", [
            (0, "c", 0, 1), (1, "a", 0, 1), (2, "c", 0, 2), (3, "t", 0, 2)], [1, 2, 2, 2])
        self.assertEqual((ranks["box c"], ranks["box t"], ranks["box a"]), ("top", "top", "left"))


class GoesOn(Carrying):
    def test_no_rows(self):
        met, ranks = self.goes_on(["box a high", "box b ?"], [1, 2], 3, "done")
        self.assertEqual((met, ranks), ([], {"box a": "high", "box b": "low", "enter main": "low", "leave main": "low"}))

    def test_nothing_at_all(self):
        order, program = made_of("ranks only")
        self.assertEqual(carried(order, program, [], 0), ("done", [], [], [], {"enter main": "only", "leave main": "only"}))

    def test_what_is_let_out_on_purpose(self):
        met, ranks = self.goes_on(["box a low", "box b ?", "box s high", "out b ann s", "set a b"], [1, 2, 3], 0, "done")
        self.assertEqual([ranks[node] for node in ("box b", "let 0", "out 0")], ["low", "high", "low"])

    def test_the_way_that_is_not_gone(self):
        lines = ["box a low", "box b ?", "box s high", "if a", "set a s", "else", "set b 1", "end"]
        met, ranks = self.goes_on(lines, [0, 2, 3], 0, "done")
        self.assertEqual([rule[0] for rule in met], [0, 2, 2, 2])
        order, program = made_of(*LOW_HIGH, *lines)
        self.assertFalse(lets_by(order, program))
        self.stops(lines, [1, 2, 3], 0, [], [1, 2, 3], (1, 1, "value", "box s", "box a"))

    def test_each_rule_as_often_as_it_was_met(self):
        met, ranks = self.goes_on(["box a low", "while a", "set a - a 1", "end"], [2], 9, "done")
        look = [(0, 0, "enter", "enter main", "at 0"), (0, 0, "turns", "at 1", "at 0"), (0, 0, "turns", "box a", "at 0")]
        turn = [(1, 0, "within", "at 0", "at 1"), (1, 1, "done", "at 1", "box a"), (1, 1, "value", "box a", "box a")]
        self.assertEqual(met, look + turn + look + turn + look + [(0, 3, "leave", "at 0", "leave main")])

    def test_spent_ahead_of_a_turn(self):
        met, ranks = self.goes_on(["box s high", "while s", "end"], [2], 0, "spent")
        self.assertEqual(met, [(0, 0, "enter", "enter main", "at 0"), (0, 0, "turns", "box s", "at 0")])
        self.assertEqual((ranks["at 0"], ranks["leave main"]), ("high", "low"))

    def test_spent_ahead_of_a_call(self):
        lines = ["box a low", "box s high", "def f ? x low", "end", "call a f s"]
        met, ranks = self.goes_on(lines, [1, 2], 0, "spent")
        self.assertEqual(met, [(0, 0, "enter", "enter main", "at 0")])
        self.stops(lines, [1, 2], 1, [], [1, 2], (0, 1, "value", "box s", "box x"))

    def test_one_rule_behind_another_at_one_moment(self):
        for first, second, carried_on in (("x", "y", True), ("y", "x", True), ("d", "e", False), ("e", "d", False)):
            lines = ["box s high", "box n low", f"def f ? {first} ? {second} ?", "if n", "set n 0", f"call f f s {first}",
                     "else", "end", "end", "call s f 0 0"]
            met, ranks = self.goes_on(lines, [5, 1], 9, "done")
            self.assertEqual((ranks["box " + first], ranks["box " + second]), ("high", "high" if carried_on else "low"))

    def test_the_end_of_a_body(self):
        met, ranks = self.goes_on(["box s high", "def f ?", "set f 1", "while s", "set s 0", "end", "end",
                                   "def g ?", "set g 1", "end", "call s g", "call s f"], [5], 9, "done")
        self.assertEqual([rule for rule in met if rule[1] == 3], [
            (1, 3, "leave", "at 1", "leave f"), (5, 3, "leave", "at 5", "leave main"),
            (5, 3, "leave", "leave f", "leave main")])
        self.assertEqual([ranks["leave " + name] for name in ("f", "g", "main")], ["high", "low", "high"])

    def test_told_ranks_stay(self):
        met, ranks = self.goes_on(["box a low", "box s high", "set s a", "set s 1"], [1, 2], 0, "done")
        self.assertEqual((ranks["box a"], ranks["box s"]), ("low", "high"))


class Inputs(unittest.TestCase):
    def test_refused(self):
        order, program = made_of(*LOW_HIGH, "box a low", "list r 2 high", "set a @ r 0")
        for values in ([], [1], [1, [2]], [1, [2, 3], 4], [[1], [2, 3]], [1, 2], [-1, [2, 3]], [10 ** 12, [2, 3]],
                       [True, [2, 3]], [1, [2, False]], [1, (2, 3)], [None, [2, 3]], ["1", [2, 3]], [1, [2, 10 ** 12]]):
            with self.assertRaises(NoInput):
                carried(order, program, values, 3)
        self.assertEqual(carried(order, program, [10 ** 12 - 1, [0, 1]], 3)[0], "stopped")


class MadeUp(Carrying):
    def test_against_the_words(self):
        chance = random.Random(31)
        words = []
        for turn in range(400):
            order, program, maker = made_up(chance, chance.choice([0.3, 0.6, 0.9]))
            for budget in (0, 2, 20):
                values = maker.values(program)
                plain = run(program, values, budget)
                told = carried(order, program, values, budget)
                self.carries(order, program, values, budget, *told[:3])
                self.assertEqual(plain[1][:len(told[1])], told[1])
                own = own_road(order, program, told[3])
                if told[0] == "stopped":
                    self.assertFalse(lets_by(order, program))
                    self.is_own_road(order, program, told[3], own)
                    self.assertEqual(own[-1], len(told[3]) - 1)
                    self.assertIsNone(own_road(order, program, told[3][:-1]))
                else:
                    self.assertEqual(told[:3], plain)
                    self.assertIsNone(own)
                words.append(told[0])
        self.assertGreater(min(words.count(word) for word in ("done", "spent", "stopped")), 100)


class OwnRoads(Carrying):
    def setUp(self):
        self.order, self.program = made_of(*CHAIN, "box a low", "box m mid", "box s high", "box b ?", "box c ?", "box d ?",
                                           "set b s", "set c b", "set b c", "set a b", "set m b", "set m s", "set a m",
                                           "set s b", "set b m", "set c c", "set a c")
        self.rule = {rule[3][-1] + rule[4][-1]: rule for rule in rules(self.program) if rule[2] == "value"}

    def own(self, words, *wanted):
        """That an own road among rules told by their boxes is one of those wanted, None where none is wanted."""
        met = [self.rule[word] for word in words.split()]
        places = own_road(self.order, self.program, met)
        if wanted:
            self.is_own_road(self.order, self.program, met, places)
            self.assertIn(places, list(wanted))
        else:
            self.assertIsNone(places)

    def test_the_empty_list(self):
        self.own("")

    def test_one_rule(self):
        self.own("sm", [0])
        self.own("ma", [0])
        self.own("bs")
        self.own("ba")
        self.own("sb")

    def test_more_rules(self):
        self.own("sb ba", [0, 1])
        self.own("sb bc ca", [0, 1, 2])
        self.own("sb bm", [0, 1])
        self.own("mb ba", [0, 1])
        self.own("cc bs sb cc mb bc bm ca", [2, 6])
        self.own("mb bm mb bs")

    def test_the_wrong_order(self):
        self.own("ba sb")
        self.own("ca bc sb")
        self.own("bc sb ca")
        self.own("ba sb ba", [1, 2])
        self.own("ca bc sb bc cb")
        self.own("ca bc sb bc ca", [2, 3, 4])

    def test_over_no_told_node(self):
        self.own("sb bs ma", [2])
        self.own("sb bm ma", [0, 1], [2])
        self.own("mb bs sb bm", [2, 3])
        self.own("mb bs bm")

    def test_to_no_node_twice(self):
        self.own("sb bc cb bc cc cb ba", [0, 6], [1, 2, 6])
        self.own("sb cc bc cc cb cc ca", [0, 2, 6])

    def test_rules_that_were_met_more_than_once(self):
        self.own("ba ba sb sb bc bc ca ca", *[[one, two, three] for one in (2, 3) for two in (4, 5) for three in (6, 7)])

    def test_a_begin_of_which_the_end_may_hear(self):
        self.own("mb bm")
        self.own("mb sb bm", [1, 2])
        self.own("sb mb bm", [0, 2])
        self.own("sb mb bs")

    def test_rules_of_every_kind(self):
        order, program = made_of(*CHAIN, "box a low", "box s high", "def f ? x ?", "while x", "end", "end", "call s f s",
                                 "if a", "set a 1", "else", "end")
        met = carried(order, program, [1, 0], 5)[3]
        self.is_own_road(order, program, met, own_road(order, program, met))
        self.assertEqual([met[place][2] for place in own_road(order, program, met)], [
            "value", "turns", "leave", "behind", "within", "done"])
        self.assertIsNone(own_road(order, program, list(reversed(met))))

    def test_every_choice_of_places(self):
        chance = random.Random(32)
        some = rules(self.program)
        told = told_ranks(self.order, self.program)
        values = [rule for rule in some if rule[2] == "value"]
        counts = []
        for turn in range(250):
            met = chance.choices(values if turn % 2 else some, k=chance.randrange(9))
            ways = [list(places) for count in range(1, len(met) + 1)
                    for places in itertools.combinations(range(len(met)), count)
                    if self.leads([met[place] for place in places], told)]
            places = own_road(self.order, self.program, met)
            if ways:
                self.assertIn(places, ways)
            else:
                self.assertIsNone(places)
            counts.append(bool(ways))
        self.assertGreater(min(counts.count(True), counts.count(False)), 40)

    def leads(self, way, told):
        """Whether rules are a road to a told node that may not hear its begin."""
        inner = [rule[4] for rule in way[:-1]]
        return (way[0][3] in told and way[-1][4] in told and not set(inner) & set(told)
                and inner == [rule[3] for rule in way[1:]] and len(set(inner)) == len(inner)
                and not self.order.under(told[way[0][3]], told[way[-1][4]]))

    def test_two_thousand_rules(self):
        self.own(" ".join(["cc bs bc cb mb bm bc cb"] * 250))
        self.own(" ".join(["ba bs bc cb cc ca cb ca"] * 249 + ["cc bc cb sb cb cc bc ca"]), [1995, 1998, 1999])
        self.own(" ".join(["sb"] + ["bc cb cc bs"] * 499 + ["bc cb ba"]),
                 *([[0, 1999]] + [[0, k, j, 1999] for k in (1, 1997) for j in (2, 1998) if k < j]))

    def test_two_thousand_rules_of_a_long_program(self):
        boxes = ["a", "b", "c", "d", "e", "f", "g", "h", "i", "j", "k"]
        lines = [f"set {one} {other}" for one, other in zip(boxes[1:], boxes)]
        order, program = made_of(*LOW_HIGH, "box a high", *[f"box {name} ?" for name in boxes[1:]], "box z low", *lines,
                                 "set z k", *[f"set a + {one} {other}" for one, other in zip(boxes, boxes[3:])])
        some = [rule for rule in rules(program) if rule[4] != "box z"]
        last = [rule for rule in rules(program) if rule[3:] == ("box k", "box z")]
        met = (list(reversed(some)) * 2000)[:1999] + last
        self.is_own_road(order, program, met, own_road(order, program, met))
        self.assertIsNone(own_road(order, program, met[:-1] + [some[0]]))
        self.assertIsNone(own_road(order, program, last + met[:-1]))


class Own(unittest.TestCase):
    def kept(self, order, program, values):
        for budget in (0, 4):
            keeps_to_itself(self, lambda one, some: carried(order, one, some, budget), program, values)
            met = carried(order, program, values, budget)[3]
            keeps_to_itself(self, lambda one, some: own_road(order, one, some), program, met)

    def test_the_sample(self):
        self.kept(Order(SAMPLE_NAMES, SAMPLE_PAIRS), sample_program(), [1, 2, [0] * 8, [3], 4])

    def test_made_up_programs(self):
        chance = random.Random(33)
        for turn in range(40):
            order, program, maker = made_up(chance)
            self.kept(order, program, maker.values(program))

    def test_one_list_handed_in_for_two_boxes(self):
        order, program = made_of("ranks low", "list r 2 low", "list s 2 low", "put r 0 7")
        some = [1, 2]
        told = carried(order, program, [some, some], 0)
        self.assertEqual(told[2], [[7, 2], [1, 2]])
        self.assertEqual(some, [1, 2])
        own_lists(self, told, some)

    def test_what_is_done_to_the_input_later_changes_nothing_told(self):
        order, program = made_of(*LOW_HIGH, "list r 2 low", "box s high", "put r 1 5", "put r 0 s")
        values = [[1, 2], 3]
        told = carried(order, program, values, 0)
        values[0].clear()
        program[3].clear()
        program[0].clear()
        self.assertEqual(told[:3], ("stopped", [(0, "r", 1, 5)], [[1, 5], 3]))


if __name__ == "__main__":
    unittest.main()
