import random
import unittest

from helpers import CHAIN, made_up, own_lists, SAMPLE_TEXT, spoil
from hushwise.carry import carried
from hushwise.desk import Desk
from hushwise.errors import HushError, NoFit, NoInput, NoName, NoOrder, NoRow, NoText
from hushwise.looker import broken, found, road
from hushwise.menders import hushed, raised
from hushwise.orders import Order
from hushwise.programs import faults, numbered
from hushwise.rules import nodes
from hushwise.runner import run
from hushwise.sides import beside, seen
from hushwise.texts import read, shown

HEADS = CHAIN + ("box a low", "list r 3 mid", "box s high")


def text_of(*lines):
    return "\n".join(lines)


def desk_of(*lines):
    return Desk(text_of(*lines))


def flat(values):
    """The words of an input."""
    return [str(n) for thing in values for n in (thing if isinstance(thing, list) else [thing])]


class Making(unittest.TestCase):
    def refused(self, kind, *lines):
        with self.assertRaises(kind) as caught:
            desk_of(*lines)
        self.assertIs(type(caught.exception), kind)
        return caught.exception

    def test_no_text(self):
        for line, lines in ((0, ("",)), (0, ("ranks",)), (1, ("ranks low", "")), (2, ("ranks low", "box a low", "set a")),
                            (3, ("ranks low", "box a low", "while a")), (0, ("ranks Low",)), (0, ("show",)),
                            (2, ("ranks low", "box a low", "under low low")), (0, (" ranks low",)), (0, ("ranks low ",)),
                            (1, ("ranks low", "list r 9 low")), (2, ("ranks low", "box a low", "set a 01")),
                            (2, ("ranks low", "box a low", "set a 1000000000000"))):
            self.assertEqual(self.refused(NoText, *lines).line, line)

    def test_no_name(self):
        self.refused(NoName, "ranks low low")
        self.refused(NoName, "ranks low", "under low high")
        self.refused(NoName, "ranks low", "under high high")

    def test_no_order(self):
        self.refused(NoOrder, "ranks low high")
        self.refused(NoOrder, "ranks low high", "under low high", "under high low")

    def test_no_fit(self):
        told = self.refused(NoFit, "ranks low", "box a mid", "box a ?", "set b 1", "out a ann c")
        self.assertEqual(told.faults, [
            (-1, "rank", "mid"), (-1, "twice", "a"), (0, "box", "b"), (1, "box", "c"), (1, "who", "ann")])
        self.assertIsInstance(told.faults, list)
        self.assertEqual(self.refused(NoFit, "ranks low", "box main low").faults, [(-1, "name", "main")])
        self.assertEqual(self.refused(NoFit, "ranks low", "def f ? x ?", "set x y", "end").faults, [(0, "box", "y")])

    def test_where_two_are_due_the_first(self):
        self.assertEqual(self.refused(NoText, "ranks low low", "box a").line, 1)
        self.assertEqual(self.refused(NoText, "ranks low high", "box a mid", "set").line, 2)
        self.refused(NoName, "ranks low low high", "under low high", "under high low", "box a mid")
        self.refused(NoOrder, "ranks low high", "box a mid")

    def test_the_faults_are_the_askers_own(self):
        first = self.refused(NoFit, "ranks low", "box a mid")
        second = self.refused(NoFit, "ranks low", "box a mid")
        own_lists(self, [first.faults, second.faults])
        spoil(first.faults)
        self.assertEqual(second.faults, [(-1, "rank", "mid")])
        self.assertEqual(self.refused(NoFit, "ranks low", "box a mid").faults, [(-1, "rank", "mid")])


class Asking(unittest.TestCase):
    def says(self, lines, rows):
        """That a desk of lines answers rows so, asked once and once again."""
        desk = desk_of(*lines)
        for row, wanted in list(rows.items()) * 2:
            self.assertEqual(desk.say(row), wanted)

    def test_show(self):
        for text in (SAMPLE_TEXT, "ranks low", text_of(*HEADS), text_of(*HEADS, "set a s", "while s", "end")):
            desk = Desk(text)
            self.assertEqual(desk.say("show"), text)
            self.assertEqual(desk.say("show"), text)

    def test_look(self):
        self.says(HEADS, {"look": "by"})
        self.says(HEADS + ("set a 1", "set a s"), {"look": "refused 1"})
        self.says(HEADS + ("if s", "set a + s s", "set s 1", "else", "out a bob s", "end"), {"look": "refused 1 3"})
        self.says(HEADS + ("set a 1", "set a s") * 6, {"look": "refused 1 3 5 7 9 11"})
        self.says(HEADS + ("def f low", "set f s", "end", "set a s"), {"look": "refused 0 1"})

    def test_rank(self):
        self.says(HEADS + ("box b ?", "def f ? x mid", "set f s", "end", "call b f 1", "out a ann b"), {
            "rank box a": "low", "rank box r": "mid", "rank box s": "high", "rank box b": "high", "rank box f": "high",
            "rank box x": "mid", "rank at 0": "low", "rank at 2": "low", "rank enter f": "low", "rank leave main": "low",
            "rank let 2": "high", "rank out 2": "low", "rank leave f": "low", "rank enter main": "low"})

    def test_road(self):
        self.says(HEADS + ("box b ?", "set b s", "set a b", "set a 1"), {
            "road 0": "none", "road 1": "box s value 0 box b value 1 box a", "road 2": "none"})
        self.says(HEADS + ("if s", "set a s", "else", "end", "while s", "set a 1", "end", "set a 1"), {
            "road 0": "none", "road 1": "box s choice 1 at 1 done 1 box a", "road 2": "none",
            "road 3": "box s turns 2 at 2 within 3 at 3 done 3 box a", "road 4": "box s turns 2 at 2 behind 4 at 4 done 4 box a"})
        self.says(HEADS + ("out a bob s",), {"road 0": "box s let 0 let 0"})
        self.says(HEADS + ("set a 1",) * 11 + ("set a s", "set a s"), {
            "road 10": "none", "road 1": "none", "road 11": "box s value 11 box a", "road 12": "box s value 12 box a"})

    def test_run(self):
        self.says(HEADS + ("while s", "set s - s 1", "put r s 9", "set a + a 1", "end"), {
            "run 20 4 1 2 3 2": "done 6 9 9 3 0", "run 2 4 1 2 3 2": "done 6 9 9 3 0", "run 1 4 1 2 3 2": "spent 5 1 9 3 1",
            "run 0 4 1 2 3 2": "spent 4 1 2 3 2", "run 0 4 1 2 3 0": "done 4 1 2 3 0",
            "run 0 999999999999 0 10 100 0": "done 999999999999 0 10 100 0"})

    def test_carry(self):
        self.says(HEADS + ("set a + a 1", "put r 0 7", "while a", "set a s", "end"), {
            "carry 20 4 1 2 3 5": "stopped 5 7 2 3 5", "carry 0 4 1 2 3 5": "spent 5 7 2 3 5",
            "carry 20 999999999999 1 2 3 5": "done 0 7 2 3 5", "run 1 4 1 2 3 5": "spent 5 7 2 3 5"})

    def test_hear(self):
        self.says(HEADS + ("def f mid x ?", "set f x", "end", "set a 1", "put r 2 a", "set s 3", "call s f 8"), {
            "hear low 20 4 1 2 3 5": "1 a 0 1; 4 x 0 8", "hear mid 20 4 1 2 3 5": "1 a 0 1; 2 r 2 1; 4 x 0 8; 0 f 0 8",
            "hear high 20 4 1 2 3 5": "1 a 0 1; 2 r 2 1; 3 s 0 3; 4 x 0 8; 0 f 0 8; 4 s 0 8",
            "hear low 0 4 1 2 3 5": "1 a 0 1"})
        self.says(HEADS + ("set s 1",), {"hear mid 0 4 1 2 3 5": "nothing", "hear high 0 4 1 2 3 5": "0 s 0 1"})

    def test_beside(self):
        self.says(HEADS + ("set a 1", "put r 0 s", "out a ann s", "set a 2"), {
            "beside low 0 4 1 2 3 5 / 4 1 2 3 5": "alike 3", "beside low 0 4 1 2 3 5 / 4 1 2 3 6": "parts 1",
            "beside low 0 4 1 2 3 5 / 9 9 9 9 5": "alike 3", "beside mid 0 4 1 2 3 5 / 4 1 2 3 6": "parts 1",
            "beside high 20 4 1 2 3 5 / 0 0 0 0 5": "alike 4"})
        self.says(HEADS + ("while s", "set s - s 1", "set a 1", "end"), {
            "beside low 9 0 0 0 0 3 / 0 0 0 0 2": "parts 2", "beside low 9 0 0 0 0 0 / 0 0 0 0 2": "parts 0",
            "beside low 2 0 0 0 0 3 / 0 0 0 0 2": "alike 2", "beside high 2 0 0 0 0 3 / 0 0 0 0 2": "parts 0"})
        self.says(HEADS, {"beside low 9 0 0 0 0 3 / 0 0 0 0 2": "alike 0"})

    def test_inputs_of_nothing_at_all(self):
        self.says(CHAIN, {"run 0": "done", "carry 3": "done", "hear low 20": "nothing", "beside high 7 /": "alike 0"})
        self.says(CHAIN + ("while 1", "end"), {"run 0": "spent", "carry 3": "spent", "beside high 7 /": "alike 0"})

    def test_inputs_of_one_number(self):
        self.says(CHAIN + ("box a low", "set a + a 1"), {
            "run 0 0": "done 1", "carry 3 7": "done 8", "hear low 20 9": "0 a 0 10", "beside high 7 0 / 0": "alike 1",
            "beside low 7 1 / 0": "parts 0"})
        self.says(CHAIN + ("list r 1 low",), {"run 0 5": "done 5", "carry 3 5": "done 5", "hear low 20 9": "nothing"})

    def test_budgets(self):
        desk = desk_of(*CHAIN, "box a low", "while 1", "set a + a 1", "end")
        for budget in range(21):
            self.assertEqual(desk.say(f"run {budget} 0"), f"spent {budget}")
            self.assertEqual(desk.say(f"carry {budget} 0"), f"spent {budget}")
            self.assertEqual(desk.say(f"beside low {budget} 0 / 0"), f"alike {budget}")

    def test_ranks_and_boxes_that_are_words_of_rows(self):
        lines = ("ranks show run", "under show run", "box look show", "box box run", "def rank ? at show", "end", "set look 3")
        self.says(lines, {"rank box box": "run", "rank box look": "show", "rank box at": "show", "rank at 0": "show",
                               "hear show 3 1 2": "0 look 0 3", "beside run 3 1 2 / 1 2": "alike 1", "rank enter rank": "show"})


class Mending(unittest.TestCase):
    def test_hush(self):
        desk = desk_of(*HEADS, "set a s", "put r 0 4", "if s", "out a ann 1", "else", "end")
        self.assertEqual(desk.say("look"), "refused 0 3")
        self.assertEqual(desk.say("rank let 3"), "high")
        self.assertEqual(desk.say("carry 0 1 2 3 4 5"), "stopped 1 2 3 4 5")
        self.assertEqual(desk.say("hush"), "ok")
        self.assertEqual(desk.say("look"), "by")
        nothing = ("if 0", "else", "end")
        self.assertEqual(desk.say("show"), text_of(*HEADS, *nothing, "put r 0 4", "if s", *nothing, "else", "end"))
        self.assertEqual(desk.say("road 0"), "none")
        self.assertEqual(desk.say("run 0 1 2 3 4 5"), "done 1 4 3 4 5")
        self.assertEqual(desk.say("carry 0 1 2 3 4 5"), "done 1 4 3 4 5")
        self.assertEqual(desk.say("hear mid 0 1 2 3 4 5"), "1 r 0 4")
        self.assertEqual(desk.say("beside mid 0 1 2 3 4 5 / 1 2 3 4 6"), "alike 1")
        with self.assertRaises(NoName):
            desk.say("rank let 3")
        self.assertEqual(desk.say("rank at 3"), "high")
        self.assertEqual(desk.say("hush"), "ok")
        self.assertEqual(desk.say("raise"), "ok")
        self.assertEqual(desk.say("show"), text_of(*HEADS, *nothing, "put r 0 4", "if s", *nothing, "else", "end"))

    def test_raise(self):
        lines = ("box b ?", "set b s", "put r 0 b", "set a @ r 1", "set a 7")
        desk = desk_of(*HEADS, *lines)
        self.assertEqual(desk.say("look"), "refused 1 2")
        self.assertEqual(desk.say("hear low 0 1 2 3 4 5 6"), "2 a 0 3; 3 a 0 7")
        self.assertEqual(desk.say("raise"), "ok")
        self.assertEqual(desk.say("look"), "by")
        self.assertEqual(desk.say("show"), text_of(*CHAIN, "box a high", "list r 3 high", "box s high", *lines))
        self.assertEqual(desk.say("rank box a"), "high")
        self.assertEqual(desk.say("rank box b"), "high")
        self.assertEqual(desk.say("hear mid 0 1 2 3 4 5 6"), "nothing")
        self.assertEqual(desk.say("carry 0 1 2 3 4 5 6"), "done 7 5 3 4 5 5")
        self.assertEqual(desk.say("raise"), "ok")
        self.assertEqual(desk.say("hush"), "ok")
        self.assertEqual(desk.say("show"), text_of(*CHAIN, "box a high", "list r 3 high", "box s high", *lines))

    def test_no_raise(self):
        text = text_of(*HEADS, "set a s", "out a bob s")
        desk = Desk(text)
        self.assertEqual(desk.say("raise"), "no")
        self.assertEqual(desk.say("show"), text)
        self.assertEqual(desk.say("look"), "refused 0 1")
        self.assertEqual(desk.say("raise"), "no")
        self.assertEqual(desk.say("hush"), "ok")
        self.assertEqual(desk.say("raise"), "ok")
        self.assertEqual(desk.say("look"), "by")

    def test_one_behind_the_other(self):
        desk = desk_of(*HEADS, "set a s")
        desk.say("raise")
        desk.say("hush")
        self.assertEqual(desk.say("show"), text_of(*CHAIN, "box a high", "list r 3 mid", "box s high", "set a s"))
        desk = desk_of(*HEADS, "set a s")
        desk.say("hush")
        desk.say("raise")
        self.assertEqual(desk.say("show"), text_of(*HEADS, "if 0", "else", "end"))

    def test_two_desks_of_one_text(self):
        text = text_of(*HEADS, "set a s")
        one, other, third = Desk(text), Desk(text), Desk(text)
        one.say("hush")
        other.say("raise")
        self.assertEqual(third.say("show"), text)
        self.assertEqual(third.say("look"), "refused 0")
        self.assertEqual(one.say("rank box a"), "low")
        self.assertEqual(other.say("rank box a"), "high")
        self.assertEqual(Desk(text).say("show"), text)


class Refusing(unittest.TestCase):
    def setUp(self):
        self.text = text_of(*HEADS, "set a s", "out a ann s", "while s", "end")
        self.desk = Desk(self.text)

    def refused(self, kind, *rows):
        for row in rows:
            with self.subTest(row), self.assertRaises(kind) as caught:
                self.desk.say(row)
            self.assertIs(type(caught.exception), kind)
            self.assertIsInstance(caught.exception, HushError)
        self.assertEqual(self.desk.say("show"), self.text)
        self.assertEqual(self.desk.say("look"), "refused 0")

    def test_words_that_begin_no_row(self):
        self.refused(NoRow, "", " ", "  ", "shows", "Show", "SHOW", "showlook", "help", "set a 1", "knowing low 3", "1", "/",
                     "seen", "own 1", "hushed", "raised", "say", "word", "number", "budget", "desk")

    def test_blanks_and_line_ends(self):
        for row in ("show", "look", "rank box a", "road 1", "run 3 1 2 3 4 5", "carry 3 1 2 3 4 5", "hear low 3 1 2 3 4 5",
                    "beside low 3 1 2 3 4 5 / 1 2 3 4 5", "hush", "raise"):
            self.refused(NoRow, " " + row, row + " ", "\n" + row, "  " + row, row + "  ")
            for place in [k for k, sign in enumerate(row) if sign == " "]:
                self.refused(NoRow, row[:place] + " " + row[place:])
        for row in ("show", "look", "road 1", "run 3 1 2 3 4 5", "hear low 3 1 2 3 4 5", "hush", "raise"):
            self.refused(NoRow, row + "\n", row + "\nshow")

    def test_too_few_words(self):
        self.refused(NoRow, "rank", "rank box", "road", "run", "carry", "hear", "hear low", "beside", "beside low",
                     "beside low 3", "beside low 3 1 2 3 4 5", "beside /", "beside low /", "hear 3", "beside 3 /",
                     "beside low 3 1 2 3 4 5 1 2 3 4 5", "hear 3 30 2 3 4 5", "beside 3 30 2 3 4 5 / 1 2 3 4 5")

    def test_too_many_words(self):
        self.refused(NoRow, "show show", "look 1", "rank box a b", "rank box a /", "road 1 2", "hush 1", "raise 1", "show /",
                     "beside low 3 1 2 3 4 5 / 1 2 3 4 5 / 1 2 3 4 5", "beside low 3 / /", "run 3 1 2 3 4 5 / 1 2 3 4 5",
                     "run 3 /", "carry 3 1 2 3 4 5 /", "hear low 3 / 1 2 3 4 5", "road", "road /")

    def test_numbers_that_are_none(self):
        for word in ("01", "00", "-1", "+1", "1000000000000", "0000000000001", "1.0", "1_0", "a", "one", "0x1", "1\n", "1,",
                     "-", "@", "?", "1/", "99999999999999999999"):
            self.refused(NoRow, f"road {word}", f"run {word} 1 2 3 4 5", f"run 3 1 2 3 4 {word}", f"run 3 {word} 2 3 4 5",
                         f"carry {word} 1 2 3 4 5", f"carry 3 1 2 {word} 4 5", f"hear low {word} 1 2 3 4 5",
                         f"hear low 3 1 {word} 3 4 5", f"beside low {word} 1 2 3 4 5 / 1 2 3 4 5",
                         f"beside low 3 {word} 2 3 4 5 / 1 2 3 4 5", f"beside low 3 1 2 3 4 5 / 1 2 3 4 {word}")

    def test_budgets_beyond_twenty(self):
        for budget in ("21", "22", "30", "100", "200", "999999999999"):
            self.refused(NoRow, f"run {budget} 1 2 3 4 5", f"carry {budget} 1 2 3 4 5", f"hear low {budget} 1 2 3 4 5",
                         f"beside low {budget} 1 2 3 4 5 / 1 2 3 4 5")

    def test_ranks_that_are_none(self):
        for word in ("lows", "Low", "LOW", "top", "?", "a", "1", "3", "/", "low,", "main", "box", "low\n", "-", "abcdefghijk"):
            self.refused(NoName, f"hear {word} 3 1 2 3 4 5", f"beside {word} 3 1 2 3 4 5 / 1 2 3 4 5")
        # Where the rank was left out, the budget stands in its place.
        self.refused(NoName, "hear 3 1 2 3 4 5", "beside 3 1 2 3 4 5 / 1 2 3 4 5")

    def test_nodes_that_are_none(self):
        self.refused(NoName, "rank box b", "rank box low", "rank at 3", "rank at 01", "rank at a", "rank enter f", "rank let 0",
                     "rank out 0", "rank leave a", "rank a box", "rank box main", "rank Box a", "rank box A", "rank at -1",
                     "rank 1 2", "rank / /", "rank box ?", "rank rank rank", "rank box\na b", "rank box a\n", "rank let 2")

    def test_row_numbers_that_are_none(self):
        self.refused(NoName, "road 3", "road 4", "road 10", "road 999999999999")
        self.assertEqual(self.desk.say("road 2"), "none")
        desk = desk_of(*CHAIN)
        with self.assertRaises(NoName):
            desk.say("road 0")

    def test_inputs_of_too_few_or_too_many_numbers(self):
        for some in ("", " 1", " 1 2 3", " 1 2 3 4", " 1 2 3 4 5 6", " 1 2 3 4 5 1 2 3 4 5"):
            self.refused(NoInput, f"run 3{some}", f"carry 3{some}", f"hear low 3{some}", f"beside low 3{some} / 1 2 3 4 5",
                         f"beside low 3 1 2 3 4 5 /{some}", f"beside low 3{some} /{some}")
        desk = desk_of(*CHAIN)
        for row in ("run 3 0", "carry 3 0", "hear low 3 0", "beside low 3 0 / 0", "beside low 3 0 /", "beside low 3 / 0"):
            with self.assertRaises(NoInput):
                desk.say(row)

    def test_where_two_are_due_the_first(self):
        self.refused(NoRow, "hear lows 21 1 2 3 4 5", "hear lows 3 1 01", "beside lows 3 1", "rank box b c", "road 3 3",
                     "run 21", "run 3 01", "beside lows 3 1 / 2 / 3", "hear lows 3 x", "carry 3 1 2 3 4 05 6")
        self.refused(NoName, "hear lows 3 1", "hear lows 3", "beside lows 3 /", "beside lows 3 1 / 2", "beside / 3 /",
                     "beside lows 3 1 2 3 4 5 / 1")

    def test_what_is_refused_changes_nothing_behind_a_mending_too(self):
        self.desk.say("hush")
        text = self.desk.say("show")
        for row in ("hush 1", "raise 1", "rank let 0", "road 3", "run 3 1", "hushed"):
            with self.assertRaises(HushError):
                self.desk.say(row)
        self.assertEqual(self.desk.say("show"), text)
        self.assertEqual(self.desk.say("look"), "by")


class MadeUp(unittest.TestCase):
    def test_each_row(self):
        chance = random.Random(61)
        for turn in range(30):
            order, program, maker = made_up(chance, busy=turn % 2)
            pairs = [(low, high) for low in order.ranks() for high in order.ranks() if order.under(low, high)]
            desk = Desk(shown(order.ranks(), pairs, program))
            self.answers(desk, order, pairs, program, maker)
            wanted = raised(order, program)
            self.assertEqual(desk.say("raise"), "no" if wanted is None else "ok")
            self.answers(desk, order, pairs, wanted or program, maker)
            self.assertEqual(desk.say("hush"), "ok")
            self.answers(desk, order, pairs, hushed(order, wanted or program), maker)

    def answers(self, desk, order, pairs, program, maker):
        """That a desk answers each row as the modules tell of a program."""
        self.assertEqual(desk.say("show"), shown(order.ranks(), pairs, program))
        some = broken(order, program)
        loud = sorted({rule[0] for rule in some})
        self.assertEqual(desk.say("look").split(" "), ["refused"] + [str(k) for k in loud] if loud else ["by"])
        ranks = found(order, program)
        for node in nodes(program):
            self.assertEqual(desk.say("rank " + node), ranks[node])
        for k in range(len(numbered(program))):
            wanted = ["none"]
            if k in loud:
                way = road(order, program, min(rule for rule in some if rule[0] == k))
                wanted = [way[0][3]] + [f"{rule[2]} {rule[0]} {rule[4]}" for rule in way]
            self.assertEqual(desk.say(f"road {k}"), " ".join(wanted))
        one, other = maker.values(program), maker.values(program)
        self.answers_runs(desk, order, program, one, other, maker.chance.randrange(21))

    def answers_runs(self, desk, order, program, one, other, budget):
        plain = run(program, one, budget)
        self.assertEqual(desk.say(" ".join([f"run {budget}"] + flat(one))), " ".join([plain[0]] + flat(plain[2])))
        told = carried(order, program, one, budget)
        self.assertEqual(desk.say(" ".join([f"carry {budget}"] + flat(one))), " ".join([told[0]] + flat(told[2])))
        for rank in order.ranks():
            events = [" ".join(str(part) for part in event) for event in seen(order, program, plain[1], rank)]
            self.assertEqual(desk.say(" ".join([f"hear {rank} {budget}"] + flat(one))), "; ".join(events or ["nothing"]))
            sides = beside(order, program, one, other, rank, budget)
            row = " ".join([f"beside {rank} {budget}"] + flat(one) + ["/"] + flat(other))
            self.assertEqual(desk.say(row), ("parts " if sides[1] else "alike ") + str(len(sides[0])))

    def test_texts_of_which_no_desk_is_made(self):
        chance = random.Random(62)
        kinds = []
        for turn in range(400):
            lines = SAMPLE_TEXT.split("\n")
            place = chance.randrange(len(lines))
            words = lines[place].split(" ")
            words[chance.randrange(len(words))] = chance.choice(["low", "s", "r", "f", "1", "ann", "?", "q", "end", "mid"])
            lines[place] = " ".join(words)
            text = "\n".join(lines)
            kinds.append(self.made_or_refused(text))
        for kind in (None, NoText, NoName, NoFit):
            self.assertGreater(kinds.count(kind), 5)

    def made_or_refused(self, text):
        """That a text makes a desk, or is refused, as its parts are; the error's class."""
        try:
            self.assertEqual(Desk(text).say("show"), text)
        except NoText as told:
            with self.assertRaises(NoText) as caught:
                read(text)
            self.assertEqual(told.line, caught.exception.line)
            return NoText
        except NoFit as told:
            names, pairs, program = read(text)
            self.assertEqual(told.faults, faults(Order(names, pairs), program))
            return NoFit
        except HushError as told:
            names, pairs, program = read(text)
            with self.assertRaises(type(told)):
                Order(names, pairs)
            return type(told)
        names, pairs, program = read(text)
        self.assertEqual(faults(Order(names, pairs), program), [])
        return None


if __name__ == "__main__":
    unittest.main()
