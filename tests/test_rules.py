import random
import unittest

from helpers import keeps_to_itself, Maker, ORDERS, program_of, sample_program
from hushwise.programs import many, names_in, spends
from hushwise.rules import behind, nodes, rules


class ByWords:
    """The nodes and rules as the document's words tell them, gathered from the rows within rows."""

    def __init__(self, program):
        self.params = {name: [param for param, told in params] for name, rank, params, rows in program[2]}
        self.rules = set()
        self.behind = {}
        self.nodes = {"box " + one[0] for one in program[0]}
        start = 0
        for name, rank, params, rows in program[2] + [("main", None, [], program[3])]:
            self.nodes |= {"enter " + name, "leave " + name} | {"box " + one[0] for one in params}
            if name != "main":
                self.nodes.add("box " + name)
            last = self.list_of_rows(rows, start, {("enter", "enter " + name)})
            if rows and any(spends(row) for row in rows):
                number = start + many(rows[:-1])
                self.rules |= {(number, 3, "leave", node, "leave " + name) for node in last}
            start += many(rows)

    def list_of_rows(self, rows, start, sources):
        """Gathers the rules of a body or block; the nodes behind its last row, none where it has no rows."""
        nodes_behind = set()
        for k, row in enumerate(rows):
            number = start + many(rows[:k])
            self.rules |= {(number, 0, kind, node, f"at {number}") for kind, node in sources}
            nodes_behind = self.one_row(row, number)
            self.behind[number] = nodes_behind
            sources = {("behind", node) for node in nodes_behind}
        return nodes_behind

    def one_row(self, row, number):
        at = f"at {number}"
        self.nodes.add(at)
        if row[0] == "call":
            self.call(row, number, at)
            return {at, "leave " + row[2]}
        if row[0] == "if":
            choice = {("within", at)} | {("choice", "box " + name) for name in names_in(row[1])}
            first = self.list_of_rows(row[2], number + 1, choice)
            second = self.list_of_rows(row[3], number + 1 + many(row[2]), choice)
            told = {at}
            told |= first if any(spends(one) for one in row[2]) else set()
            return told | (second if any(spends(one) for one in row[3]) else set())
        if row[0] == "while":
            again = self.list_of_rows(row[2], number + 1, {("within", at)})
            again = again | {"box " + name for name in names_in(row[1])}
            self.rules |= {(number, 0, "turns", node, at) for node in again}
            return {at}
        target = "box " + row[1]
        self.rules.add((number, 1, "done", at, target))
        read = {"box " + name for one in row[2:] if isinstance(one, tuple) for name in names_in(one)}
        if row[0] == "out":
            self.nodes |= {f"let {number}", f"out {number}"}
            self.rules |= {(number, 1, "let", node, f"let {number}") for node in read}
            self.rules.add((number, 1, "out", f"out {number}", target))
        else:
            self.rules |= {(number, 1, "value", node, target) for node in read}
        return {at}

    def call(self, row, number, at):
        for param, one in zip(self.params[row[2]], row[3]):
            self.rules |= {(number, 1, "value", "box " + name, "box " + param) for name in names_in(one)}
            self.rules.add((number, 1, "done", at, "box " + param))
        self.rules.add((number, 1, "call", at, "enter " + row[2]))
        for source in ("box " + row[2], at, "leave " + row[2]):
            self.rules.add((number, 2, "back", source, "box " + row[1]))


class Nodes(unittest.TestCase):
    def test_without_boxes_and_rows(self):
        self.assertEqual(nodes(([], [], [], [])), ["enter main", "leave main"])

    def test_each_kind(self):
        program = program_of("box b low", "list a 2 ?", "def g high y ? x low", "set g x", "end", "def f ?", "end",
                             "out b ann b", "while b", "put a 0 0", "end")
        self.assertEqual(nodes(program), [
            "at 0", "at 1", "at 2", "at 3", "box a", "box b", "box f", "box g", "box x", "box y",
            "enter f", "enter g", "enter main", "leave f", "leave g", "leave main", "let 1", "out 1"])

    def test_rows_in_blocks(self):
        program = program_of("box a low", "if a", "out a ann 0", "else", "while 0", "out a ann 1", "end", "end")
        self.assertEqual(nodes(program), [
            "at 0", "at 1", "at 2", "at 3", "box a", "enter main", "leave main", "let 1", "let 3", "out 1", "out 3"])

    def test_sorted_as_texts(self):
        told = nodes(program_of("box a low", *(["out a ann 0"] * 12)))
        self.assertEqual(told[:5], ["at 0", "at 1", "at 10", "at 11", "at 2"])
        self.assertEqual(told, sorted(told))
        self.assertEqual(len(told), 39)


class Behind(unittest.TestCase):
    def told(self, wanted, *lines):
        program = program_of("box a low", "list r 2 ?", "def f ?", "end", "def g ? x ?", "end", *lines)
        for k, some in enumerate(wanted):
            self.assertEqual(behind(program, k), some)

    def test_rows_without_blocks(self):
        self.told([["at 0"], ["at 1"], ["at 2"], ["at 3", "leave f"], ["at 4", "leave g"]],
                  "set a 0", "put r 0 0", "out a ann 0", "call a f", "call a g 1")

    def test_whiles(self):
        self.told([["at 0"], ["at 1"], ["at 2"], ["at 3", "leave f"]], "while a", "end", "while a", "while a", "call a f",
                  "end", "end")

    def test_ifs_without_a_row_that_spends(self):
        self.told([["at 0"]], "if a", "else", "end")
        self.told([["at 0"], ["at 1"], ["at 2"]], "if a", "set a 0", "else", "out a ann 1", "end")
        self.told([["at 0"], ["at 1"]], "if a", "if a", "else", "set a 0", "end", "else", "end")

    def test_one_block_with_a_row_that_spends(self):
        self.told([["at 0", "at 1"]], "if a", "while a", "end", "else", "end")
        self.told([["at 0", "at 1"]], "if a", "while a", "end", "else", "set a 0", "end")
        self.told([["at 0", "at 2"]], "if a", "set a 0", "else", "while a", "end", "end")
        self.told([["at 0", "at 1", "leave f"]], "if a", "call a f", "else", "end")
        self.told([["at 0", "at 1", "leave g"]], "if a", "else", "call a g 0", "end")

    def test_the_last_row_counts_where_another_one_spends(self):
        self.told([["at 0", "at 2"]], "if a", "while a", "end", "set a 0", "else", "end")
        self.told([["at 0", "at 2", "leave f"]], "if a", "call a g 0", "call a f", "else", "set a 0", "end")
        self.told([["at 0", "at 2"]], "if a", "call a f", "if a", "set a 0", "else", "end", "else", "end")

    def test_both_blocks(self):
        self.told([["at 0", "at 1", "at 2", "leave f"]], "if a", "while a", "end", "else", "call a f", "end")
        self.told([["at 0", "at 1", "at 2", "leave f"]], "if a", "call a f", "else", "call a f", "end")

    def test_blocks_in_blocks(self):
        self.told([["at 0", "at 1", "at 3", "leave f"], ["at 1", "at 3", "leave f"], ["at 2"]],
                  "if a", "if a", "set a 0", "else", "call a f", "end", "else", "set a 1", "end")
        self.told([["at 0", "at 1", "at 2"], ["at 1", "at 2"], ["at 2"], ["at 3"]],
                  "if a", "if a", "while a", "set a 1", "end", "else", "end", "else", "end")

    def test_sorted_as_texts(self):
        lines = ["set a 0"] * 9 + ["if a", "while a", "end", "else", "end"]
        self.told([[f"at {k}"] for k in range(9)] + [["at 10", "at 9"]], *lines)


class Rules(unittest.TestCase):
    heads = ("box a low", "box b ?", "list r 2 ?")

    def told(self, wanted, *lines):
        self.assertEqual(rules(program_of(*self.heads, *lines)), wanted)

    def test_none(self):
        self.told([])
        self.told([], "def f ? x low", "end")

    def test_set(self):
        self.told([(0, 0, "enter", "enter main", "at 0"), (0, 1, "done", "at 0", "box a")], "set a 1")
        self.told([(0, 0, "enter", "enter main", "at 0"), (0, 1, "done", "at 0", "box a"),
                   (0, 1, "value", "box a", "box a"), (0, 1, "value", "box b", "box a"),
                   (0, 1, "value", "box r", "box a")], "set a + @ r b - a b")

    def test_put(self):
        self.told([(0, 0, "enter", "enter main", "at 0"), (0, 1, "done", "at 0", "box r")], "put r 0 1")
        self.told([(0, 0, "enter", "enter main", "at 0"), (0, 1, "done", "at 0", "box r"),
                   (0, 1, "value", "box a", "box r"), (0, 1, "value", "box b", "box r")], "put r a b")
        self.told([(0, 0, "enter", "enter main", "at 0"), (0, 1, "done", "at 0", "box r"),
                   (0, 1, "value", "box b", "box r"), (0, 1, "value", "box r", "box r")], "put r b @ r b")

    def test_out(self):
        self.told([(0, 0, "enter", "enter main", "at 0"), (0, 1, "done", "at 0", "box a"),
                   (0, 1, "out", "out 0", "box a")], "out a ann 1")
        self.told([(0, 0, "enter", "enter main", "at 0"), (0, 1, "done", "at 0", "box a"),
                   (0, 1, "let", "box a", "let 0"), (0, 1, "let", "box b", "let 0"), (0, 1, "let", "box r", "let 0"),
                   (0, 1, "out", "out 0", "box a")], "out a ann + a @ r b")

    def test_call(self):
        self.told([(0, 0, "enter", "enter main", "at 0"), (0, 1, "call", "at 0", "enter f"),
                   (0, 2, "back", "at 0", "box b"), (0, 2, "back", "box f", "box b"),
                   (0, 2, "back", "leave f", "box b"),
                   (0, 3, "leave", "at 0", "leave main"), (0, 3, "leave", "leave f", "leave main")],
                  "def f ?", "end", "call b f")

    def test_call_with_arguments(self):
        self.told([(0, 0, "enter", "enter main", "at 0"), (0, 1, "call", "at 0", "enter f"),
                   (0, 1, "done", "at 0", "box x"), (0, 1, "done", "at 0", "box y"), (0, 1, "done", "at 0", "box z"),
                   (0, 1, "value", "box a", "box x"), (0, 1, "value", "box b", "box x"),
                   (0, 1, "value", "box r", "box z"),
                   (0, 2, "back", "at 0", "box a"), (0, 2, "back", "box f", "box a"),
                   (0, 2, "back", "leave f", "box a"),
                   (0, 3, "leave", "at 0", "leave main"), (0, 3, "leave", "leave f", "leave main")],
                  "def f ? x ? z ? y ?", "end", "call a f + a b @ r 0 1")

    def test_from_and_to_may_be_the_same(self):
        self.told([(0, 0, "enter", "enter f", "at 0"), (0, 1, "call", "at 0", "enter f"),
                   (0, 1, "done", "at 0", "box x"), (0, 1, "value", "box x", "box x"),
                   (0, 2, "back", "at 0", "box f"), (0, 2, "back", "box f", "box f"), (0, 2, "back", "leave f", "box f"),
                   (0, 3, "leave", "at 0", "leave f"), (0, 3, "leave", "leave f", "leave f")],
                  "def f ? x ?", "call f f x", "end")

    def test_first_rows_of_blocks(self):
        self.told([(0, 0, "enter", "enter main", "at 0"),
                   (1, 0, "choice", "box a", "at 1"), (1, 0, "choice", "box r", "at 1"), (1, 0, "within", "at 0", "at 1"),
                   (1, 1, "done", "at 1", "box b"),
                   (2, 0, "behind", "at 1", "at 2"), (2, 1, "done", "at 2", "box b"),
                   (3, 0, "choice", "box a", "at 3"), (3, 0, "choice", "box r", "at 3"), (3, 0, "within", "at 0", "at 3"),
                   (3, 1, "done", "at 3", "box b")],
                  "if @ r a", "set b 1", "set b 2", "else", "set b 3", "end")

    def test_a_guard_that_reads_nothing(self):
        self.told([(0, 0, "enter", "enter main", "at 0"), (1, 0, "within", "at 0", "at 1"),
                   (1, 1, "done", "at 1", "box b")], "if 1", "else", "set b 3", "end")

    def test_blocks_without_rows(self):
        self.told([(0, 0, "enter", "enter main", "at 0")], "if + a b", "else", "end")
        self.told([(0, 0, "enter", "enter main", "at 0"), (0, 0, "turns", "box a", "at 0"),
                   (0, 0, "turns", "box b", "at 0"), (0, 3, "leave", "at 0", "leave main")], "while + a b", "end")
        self.told([(0, 0, "enter", "enter main", "at 0"), (0, 3, "leave", "at 0", "leave main")], "while 0", "end")

    def test_while(self):
        self.told([(0, 0, "enter", "enter main", "at 0"), (0, 0, "turns", "at 2", "at 0"),
                   (0, 0, "turns", "box a", "at 0"), (0, 3, "leave", "at 0", "leave main"),
                   (1, 0, "within", "at 0", "at 1"), (1, 1, "done", "at 1", "box b"),
                   (2, 0, "behind", "at 1", "at 2"), (2, 1, "done", "at 2", "box a")],
                  "while a", "set b 1", "set a 0", "end")

    def test_while_whose_block_ends_with_a_call_or_an_if(self):
        program = program_of(*self.heads, "def f ?", "end", "while a", "call a f", "end")
        self.assertEqual([rule for rule in rules(program) if rule[2] == "turns"], [
            (0, 0, "turns", "at 1", "at 0"), (0, 0, "turns", "box a", "at 0"), (0, 0, "turns", "leave f", "at 0")])
        program = program_of(*self.heads, "while 1", "if a", "while b", "end", "else", "set a 1", "end", "end")
        self.assertEqual([rule for rule in rules(program) if rule[2] == "turns"], [
            (0, 0, "turns", "at 1", "at 0"), (0, 0, "turns", "at 2", "at 0"), (2, 0, "turns", "box b", "at 2")])

    def test_behind_each_sort_of_row(self):
        program = program_of(*self.heads, "def f ?", "end", "set a 0", "put r 0 0", "out a ann 0", "call a f",
                             "while 0", "end", "if a", "else", "end", "if a", "call a f", "else", "while 0", "end", "end",
                             "set a 0")
        self.assertEqual([rule[::3] + (rule[4],) for rule in rules(program) if rule[2] == "behind"], [
            (1, "at 0", "at 1"), (2, "at 1", "at 2"), (3, "at 2", "at 3"), (4, "at 3", "at 4"), (4, "leave f", "at 4"),
            (5, "at 4", "at 5"), (6, "at 5", "at 6"),
            (9, "at 6", "at 9"), (9, "at 7", "at 9"), (9, "at 8", "at 9"), (9, "leave f", "at 9")])

    def test_the_row_just_ahead_in_the_same_block_alone(self):
        program = program_of(*self.heads, "set a 0", "if a", "set a 1", "else", "set a 2", "set a 3", "end", "set a 4")
        self.assertEqual([rule[3:] for rule in rules(program) if rule[2] == "behind"], [
            ("at 0", "at 1"), ("at 3", "at 4"), ("at 1", "at 5")])

    def test_first_rows_of_bodies(self):
        program = program_of(*self.heads, "def f ?", "set a 0", "set a 1", "end", "def g ?", "end", "def h ?",
                             "if 1", "set a 2", "else", "end", "end", "set a 3", "set a 4")
        self.assertEqual([rule for rule in rules(program) if rule[2] == "enter"], [
            (0, 0, "enter", "enter f", "at 0"), (2, 0, "enter", "enter h", "at 2"), (4, 0, "enter", "enter main", "at 4")])

    def leaves(self, *lines):
        return [rule for rule in rules(program_of(*self.heads, *lines)) if rule[1] == 3 or rule[2] == "leave"]

    def test_last_rows_of_bodies_with_a_row_that_spends(self):
        self.assertEqual(self.leaves("while 0", "end", "set a 0"), [(1, 3, "leave", "at 1", "leave main")])
        self.assertEqual(self.leaves("if a", "while 0", "end", "else", "end", "set a 0", "if b", "set a 1", "else", "end"), [
            (3, 3, "leave", "at 3", "leave main")])
        self.assertEqual(self.leaves("set a 0", "if a", "set a 1", "else", "if b", "while 0", "end", "else", "end", "end"), [
            (1, 3, "leave", "at 1", "leave main"), (1, 3, "leave", "at 3", "leave main"),
            (1, 3, "leave", "at 4", "leave main")])

    def test_bodies_without_a_row_that_spends(self):
        self.assertEqual(self.leaves("set a 0", "if a", "set a 1", "else", "set a 2", "end"), [])

    def test_each_body_by_itself(self):
        self.assertEqual(self.leaves("def f ?", "set f 1", "end", "def g ? x ?", "while x", "set x 0", "end", "set g 1", "end",
                                     "def h ?", "call h f", "end", "set a 0"), [
            (3, 3, "leave", "at 3", "leave g"), (4, 3, "leave", "at 4", "leave h"), (4, 3, "leave", "leave f", "leave h")])

    def test_sorted_by_numbers_and_each_once(self):
        told = rules(program_of(*self.heads, *(["put r + a a * a @ r a"] * 12)))
        self.assertEqual([rule[0] for rule in told], [k for k in range(12) for j in range(4)])
        self.assertEqual(told, sorted(set(told)))

    def test_a_who_is_no_node(self):
        program = ([("a", 0, None)], [("a", "low", "low")], [], [("out", "a", ("num", 1), "a")])
        self.assertEqual(rules(program), [
            (0, 0, "enter", "enter main", "at 0"), (0, 1, "done", "at 0", "box a"), (0, 1, "out", "out 0", "box a")])


class AgainstTheWords(unittest.TestCase):
    def test_made_up_programs(self):
        chance = random.Random(9)
        for turn in range(1500):
            program = Maker(chance, chance.choice(ORDERS)[0]).program()
            wanted = ByWords(program)
            self.assertEqual(nodes(program), sorted(wanted.nodes))
            self.assertEqual(rules(program), sorted(wanted.rules))
            for k, some in wanted.behind.items():
                self.assertEqual(behind(program, k), sorted(some))
            self.assertLessEqual({node for rule in rules(program) for node in rule[3:]}, set(nodes(program)))


class Own(unittest.TestCase):
    def test_what_is_told(self):
        chance = random.Random(10)
        for program in [sample_program()] + [Maker(chance, ["low"]).program() for turn in range(100)]:
            keeps_to_itself(self, nodes, program)
            keeps_to_itself(self, rules, program)
            for k in range(many(program[3])):
                keeps_to_itself(self, lambda one: behind(one, k), program)


if __name__ == "__main__":
    unittest.main()
