import copy
import random
import unittest

from helpers import keeps_to_itself, made_of, Maker, ORDERS, own_lists, program_of, sample_program
from hushwise.errors import NoInput
from hushwise.orders import Order
from hushwise.programs import faults, many
from hushwise.runner import run, traced
from hushwise.sums import value_of

LAST = 10 ** 12 - 1


class Spent(Exception):
    pass


class ByWords:
    """A run as the document's words tell it, each call and block within the one around it."""

    def __init__(self, program, values, budget):
        self.boxes = {one[0]: copy.copy(thing) for one, thing in zip(program[0], values)}
        self.budget = budget
        self.moments = []
        self.bodies = {}
        start = 0
        for name, rank, params, rows in program[2] + [("main", None, [], program[3])]:
            self.bodies[name] = ([param for param, told in params], rows, start)
            start += many(rows)
        self.word = "done"
        try:
            self.body("main", {})
        except Spent:
            self.word = "spent"
        self.values = [self.boxes[one[0]] for one in program[0]]
        self.record = [(moment[0],) + event for moment in self.moments for event in moment[2]]

    def body(self, name, own):
        params, rows, start = self.bodies[name]
        self.rows(rows, start, own)
        if rows:
            self.moments.append((start + many(rows[:-1]), 3, []))

    def rows(self, rows, start, own):
        for k, row in enumerate(rows):
            self.row(row, start + many(rows[:k]), own)

    def take_one(self):
        if self.budget == 0:
            raise Spent()
        self.budget -= 1

    def got(self, number, time, own, name, value):
        (own if name in own else self.boxes)[name] = value
        self.moments.append((number, time, [(name, 0, value)]))

    def row(self, row, number, own):
        def value(expression):
            return value_of(expression, {**self.boxes, **own})
        self.moments.append((number, 0, []))
        if row[0] in ("set", "out"):
            self.got(number, 1, own, row[1], value(row[2]))
        if row[0] == "put":
            place = value(row[2])
            there = place < len(self.boxes[row[1]])
            self.moments.append((number, 1, [(row[1], place, value(row[3]))] if there else []))
            if there:
                self.boxes[row[1]][place] = value(row[3])
        if row[0] == "if" and value(row[1]):
            self.rows(row[2], number + 1, own)
        elif row[0] == "if":
            self.rows(row[3], number + 1 + many(row[2]), own)
        while row[0] == "while" and value(row[1]):
            self.take_one()
            self.rows(row[2], number + 1, own)
            self.moments.append((number, 0, []))
        if row[0] == "call":
            self.take_one()
            some = list(zip(self.bodies[row[2]][0], [value(one) for one in row[3]]))
            self.moments.append((number, 1, [(param, 0, one) for param, one in some]))
            inner = {row[2]: 0, **dict(some)}
            self.body(row[2], inner)
            self.got(number, 2, own, row[1], inner[row[2]])


class Runs(unittest.TestCase):
    def told(self, program, values, budget, word, moments, end):
        """Both tellings of a run are as they are to be; its record follows from its moments."""
        self.assertEqual(traced(program, values, budget), moments)
        record = [(row,) + event for row, time, events in moments for event in events]
        self.assertEqual(run(program, values, budget), (word, record, end))


class Inputs(Runs):
    def setUp(self):
        self.program = program_of("box a low", "list r 3 ?", "box b ?", "set a b")

    def refused(self, program, values):
        for ask in (run, traced):
            with self.assertRaises(NoInput):
                ask(program, values, 5)

    def taken(self, values):
        self.assertEqual(run(self.program, values, 5)[2], [values[2], values[1], values[2]])
        self.assertEqual(len(traced(self.program, values, 5)), 3)

    def test_numbers_at_their_edges(self):
        for n in (0, 1, LAST):
            self.taken([n, [0, 0, 0], 5])
            self.taken([5, [n, 3, n], n])

    def test_too_few_and_too_many(self):
        whole = [1, [1, 2, 3], 4]
        for values in ([], whole[:1], whole[:2], whole[1:], whole + [0], whole + [[]], whole + whole):
            self.refused(self.program, values)

    def test_a_program_without_boxes(self):
        program = program_of("if 1", "else", "end")
        self.assertEqual(run(program, [], 0), ("done", [], []))
        for values in ([0], [[]], [None], [[], []]):
            self.refused(program, values)

    def test_a_number_where_a_list_belongs_and_the_other_way_about(self):
        for values in ([1, 2, 3], [[1], [1, 2, 3], 4], [1, [1, 2, 3], [4]], [[1, 2, 3], 1, 4], [1, [1, 2, 3], []],
                       [1, 4, [1, 2, 3]]):
            self.refused(self.program, values)

    def test_lists_of_a_wrong_length(self):
        for some in ([], [1], [1, 2], [1, 2, 3, 4], [1] * 8):
            self.refused(self.program, [0, some, 0])
        for size in range(1, 9):
            program = program_of(f"list r {size} low")
            self.assertEqual(run(program, [[7] * size], 0), ("done", [], [[7] * size]))
            for length in (0, size - 1, size + 1):
                self.refused(program, [[7] * length])
            self.refused(program, [7])

    def test_things_that_are_no_numbers_of_a_box(self):
        for odd in (-1, -LAST, LAST + 1, 10 ** 30, 10 ** 5000, True, False, None, "", "1", "a", (), (1,), (1, 2, 3), 1.0,
                    0.5, {}, {0: 1}, [], [1], [[1]], b"1", range(3), {1, 2, 3}):
            self.refused(self.program, [odd, [1, 2, 3], 4])
            self.refused(self.program, [1, [1, 2, 3], odd])
            for place in range(3):
                some = [1, 2, 3]
                some[place] = odd
                self.refused(self.program, [1, some, 4])

    def test_things_that_are_no_lists(self):
        for odd in (0, -1, True, False, None, "", "123", (), (1, 2, 3), {}, {0: 1, 1: 2, 2: 3}, range(3), {1, 2, 3}):
            self.refused(self.program, [1, odd, 4])

    def test_what_is_no_list_at_all(self):
        for odd in (None, 1, (1, [1, 2, 3], 4), "abc", {0: 1, 1: [1, 2, 3], 2: 4}):
            self.refused(self.program, odd)

    def test_refused_ahead_of_all_else(self):
        program = program_of("box a low", "while 1", "end")
        for ask in (run, traced):
            with self.assertRaises(NoInput):
                ask(program, [LAST + 1], 0)


class SingleRows(Runs):
    def test_no_rows(self):
        self.told(program_of(), [], 0, "done", [], [])
        self.told(program_of("box a low", "list r 2 ?"), [4, [5, 6]], 20, "done", [], [4, [5, 6]])

    def test_set(self):
        program = program_of("box a low", "set a + a 1")
        self.told(program, [4], 0, "done", [(0, 0, []), (0, 1, [("a", 0, 5)]), (0, 3, [])], [5])
        self.told(program, [LAST], 0, "done", [(0, 0, []), (0, 1, [("a", 0, 0)]), (0, 3, [])], [0])

    def test_a_set_that_changes_nothing_is_an_event_too(self):
        program = program_of("box a low", "set a a")
        self.told(program, [4], 0, "done", [(0, 0, []), (0, 1, [("a", 0, 4)]), (0, 3, [])], [4])

    def test_out(self):
        program = program_of("box a low", "box s high", "out a ann * s 2")
        self.told(program, [1, 8], 0, "done", [(0, 0, []), (0, 1, [("a", 0, 16)]), (0, 3, [])], [16, 8])

    def test_put(self):
        program = program_of("box a low", "list r 3 low", "put r a + a 7")
        for place in range(3):
            end = [1, 2, 3]
            end[place] = place + 7
            moments = [(0, 0, []), (0, 1, [("r", place, place + 7)]), (0, 3, [])]
            self.told(program, [place, [1, 2, 3]], 0, "done", moments, [place, end])
        for place in (3, 4, 100, LAST):
            moments = [(0, 0, []), (0, 1, []), (0, 3, [])]
            self.told(program, [place, [1, 2, 3]], 0, "done", moments, [place, [1, 2, 3]])

    def test_a_put_reads_its_own_list_box_as_it_was(self):
        program = program_of("list r 2 low", "put r @ r 0 @ r 1")
        moments = [(0, 0, []), (0, 1, [("r", 1, 9)]), (0, 3, [])]
        self.told(program, [[1, 9]], 0, "done", moments, [[1, 9]])
        moments = [(0, 0, []), (0, 1, [("r", 0, 9)]), (0, 3, [])]
        self.told(program, [[0, 9]], 0, "done", moments, [[9, 9]])

    def test_rows_one_behind_the_other(self):
        program = program_of("box a low", "box b low", "set a + b 1", "set b + a 1", "set a + b 1")
        moments = [(0, 0, []), (0, 1, [("a", 0, 3)]), (1, 0, []), (1, 1, [("b", 0, 4)]), (2, 0, []),
                   (2, 1, [("a", 0, 5)]), (2, 3, [])]
        self.told(program, [9, 2], 0, "done", moments, [5, 4])


class Choices(Runs):
    def test_both_ways(self):
        program = program_of("box a low", "if a", "set a 5", "set a 6", "else", "set a 7", "end", "set a + a 1")
        first = [(0, 0, []), (1, 0, []), (1, 1, [("a", 0, 5)]), (2, 0, []), (2, 1, [("a", 0, 6)]),
                 (4, 0, []), (4, 1, [("a", 0, 7)]), (4, 3, [])]
        second = [(0, 0, []), (3, 0, []), (3, 1, [("a", 0, 7)]), (4, 0, []), (4, 1, [("a", 0, 8)]), (4, 3, [])]
        for n in (1, 2, 10, LAST):
            self.told(program, [n], 0, "done", first, [7])
        self.told(program, [0], 0, "done", second, [8])

    def test_blocks_without_rows(self):
        for lines, way in ((("if a", "else", "set a 9", "end"), 1), (("if a", "set a 9", "else", "end"), 0)):
            program = program_of("box a low", *lines)
            self.told(program, [way], 0, "done", [(0, 0, []), (0, 3, [])], [way])
            moments = [(0, 0, []), (1, 0, []), (1, 1, [("a", 0, 9)]), (0, 3, [])]
            self.told(program, [1 - way], 0, "done", moments, [9])
        program = program_of("box a low", "if a", "else", "end")
        for n in (0, 3):
            self.told(program, [n], 0, "done", [(0, 0, []), (0, 3, [])], [n])

    def test_the_end_of_main_is_told_by_the_last_row_of_its_list(self):
        program = program_of("box a low", "set a 1", "if a", "if a", "set a 2", "else", "end", "else", "end")
        moments = [(0, 0, []), (0, 1, [("a", 0, 1)]), (1, 0, []), (2, 0, []), (3, 0, []), (3, 1, [("a", 0, 2)]), (1, 3, [])]
        self.told(program, [0], 0, "done", moments, [2])


class Turns(Runs):
    def setUp(self):
        self.program = program_of("box a low", "box b low", "while a", "set a - a 1", "end", "set b 1")

    def turn(self, left):
        return [(0, 0, []), (1, 0, []), (1, 1, [("a", 0, left)])]

    def test_no_time(self):
        rest = [(0, 0, []), (2, 0, []), (2, 1, [("b", 0, 1)]), (2, 3, [])]
        for budget in (0, 1, 20):
            self.told(self.program, [0, 0], budget, "done", rest, [0, 1])

    def test_some_times(self):
        rest = [(0, 0, []), (2, 0, []), (2, 1, [("b", 0, 1)]), (2, 3, [])]
        for budget in (2, 3, 20):
            self.told(self.program, [2, 0], budget, "done", self.turn(1) + self.turn(0) + rest, [0, 1])

    def test_until_the_budget_is_spent(self):
        for budget in (0, 1, 2):
            turns = [moment for k in range(budget) for moment in self.turn(2 - k)]
            self.told(self.program, [3, 0], budget, "spent", turns + [(0, 0, [])], [3 - budget, 0])

    def test_the_whole_budget(self):
        for budget in (1, 20):
            turns = [moment for k in range(budget) for moment in self.turn(budget - 1 - k)]
            rest = [(0, 0, []), (2, 0, []), (2, 1, [("b", 0, 1)]), (2, 3, [])]
            self.told(self.program, [budget, 0], budget, "done", turns + rest, [0, 1])
            turns = [moment for k in range(budget) for moment in self.turn(budget - k)]
            self.told(self.program, [budget + 1, 0], budget, "spent", turns + [(0, 0, [])], [1, 0])

    def test_a_block_without_rows(self):
        program = program_of("box a low", "while a", "end")
        self.told(program, [0], 3, "done", [(0, 0, []), (0, 3, [])], [0])
        for budget in (0, 1, 20):
            self.told(program, [LAST], budget, "spent", [(0, 0, [])] * (budget + 1), [LAST])

    def test_one_budget_for_all(self):
        program = program_of("box a low", "box b low", "while a", "set a - a 1", "end", "while b", "set b - b 1", "end")
        self.assertEqual(run(program, [2, 3], 5)[::2], ("done", [0, 0]))
        self.assertEqual(run(program, [2, 3], 4)[::2], ("spent", [0, 1]))
        self.assertEqual(run(program, [2, 3], 1)[::2], ("spent", [1, 3]))

    def test_one_within_another(self):
        program = program_of("box a low", "box b low", "while a", "set b 2", "while b", "set b - b 1", "end",
                             "set a - a 1", "end")
        self.assertEqual(run(program, [2, 0], 6)[::2], ("done", [0, 0]))
        self.assertEqual(run(program, [2, 0], 5)[::2], ("spent", [1, 1]))
        self.assertEqual([moment[:2] for moment in traced(program, [1, 0], 20)], [
            (0, 0), (1, 0), (1, 1), (2, 0), (3, 0), (3, 1), (2, 0), (3, 0), (3, 1), (2, 0), (4, 0), (4, 1), (0, 0), (0, 3)])


class Calls(Runs):
    def test_without_parameters_and_rows(self):
        program = program_of("box a low", "def f ?", "end", "call a f")
        self.told(program, [9], 1, "done", [(0, 0, []), (0, 1, []), (0, 2, [("a", 0, 0)]), (0, 3, [])], [0])
        self.told(program, [9], 0, "spent", [(0, 0, [])], [9])

    def test_each_number_of_parameters(self):
        names = ["w", "x", "y", "z"]
        for count in range(5):
            head = " ".join(["def f ?"] + [name + " ?" for name in names[:count]])
            call = " ".join(["call a f"] + [f"+ a {k}" for k in range(count)])
            lines = ["set f + f " + name for name in names[:count]]
            program = program_of("box a low", head, *lines, "end", call)
            moments = [(count, 0, []), (count, 1, [(name, 0, 5 + k) for k, name in enumerate(names[:count])])]
            total = 0
            for k in range(count):
                total += 5 + k
                moments.extend([(k, 0, []), (k, 1, [("f", 0, total)])])
            moments.extend([(count - 1, 3, [])] * (count > 0))
            moments.extend([(count, 2, [("a", 0, total)]), (count, 3, [])])
            self.told(program, [5], 1, "done", moments, [total])

    def test_the_own_box_holds_nought_at_first_in_each_call(self):
        program = program_of("box a low", "def f ?", "set f + f 1", "end", "call a f", "call a f")
        call = [(0, 0, []), (0, 1, [("f", 0, 1)]), (0, 3, [])]
        moments = [(1, 0, []), (1, 1, [])] + call + [(1, 2, [("a", 0, 1)]), (2, 0, []), (2, 1, [])] + call
        self.told(program, [9], 2, "done", moments + [(2, 2, [("a", 0, 1)]), (2, 3, [])], [1])

    def test_arguments_by_the_boxes_where_the_call_stands(self):
        program = program_of("box a low", "def f ? x ? y ?", "set x 8", "set f + x y", "end", "call a f a + a 1")
        self.assertEqual(run(program, [4], 1), ("done", [
            (2, "x", 0, 4), (2, "y", 0, 5), (0, "x", 0, 8), (1, "f", 0, 13), (2, "a", 0, 13)], [13]))

    def test_boxes_of_the_program_in_a_body(self):
        program = program_of("box a low", "list r 2 ?", "def f ? x ?", "put r x a", "set a 7", "end", "call a f 1")
        self.assertEqual(run(program, [4, [0, 0]], 1), ("done", [
            (2, "x", 0, 1), (0, "r", 1, 4), (1, "a", 0, 7), (2, "a", 0, 0)], [0, [0, 4]]))

    def test_one_function_within_another(self):
        program = program_of("box a low", "def f ? x ?", "call f g x", "set x + x f", "end",
                             "def g ? y ?", "set g * y 10", "end", "call a f 3")
        self.told(program, [0], 2, "done", [
            (3, 0, []), (3, 1, [("x", 0, 3)]), (0, 0, []), (0, 1, [("y", 0, 3)]), (2, 0, []), (2, 1, [("g", 0, 30)]),
            (2, 3, []), (0, 2, [("f", 0, 30)]), (1, 0, []), (1, 1, [("x", 0, 33)]), (1, 3, []), (3, 2, [("a", 0, 30)]),
            (3, 3, [])], [30])
        self.told(program, [0], 1, "spent", [(3, 0, []), (3, 1, [("x", 0, 3)]), (0, 0, [])], [0])

    def test_a_function_by_itself(self):
        program = program_of("box a low", "def f ? x ?", "if x", "call f f - x 1", "set f + f x", "else", "end", "end",
                             "call a f a")
        inner = [(0, 0, []), (1, 0, []), (1, 1, [("x", 0, 0)]), (0, 0, []), (0, 3, []), (1, 2, [("f", 0, 0)]),
                 (2, 0, []), (2, 1, [("f", 0, 1)]), (0, 3, [])]
        moments = [(3, 0, []), (3, 1, [("x", 0, 1)])] + inner + [(3, 2, [("a", 0, 1)]), (3, 3, [])]
        self.told(program, [1], 2, "done", moments, [1])
        for n in range(20):
            self.assertEqual(run(program, [n], 20)[::2], ("done", [n * (n + 1) // 2]))
            self.assertEqual(run(program, [n], n)[::2], ("spent", [n]))

    def test_x_is_a_parameter_where_the_call_stands(self):
        program = program_of("box a low", "def f ? x ?", "if < x 3", "call x f + x 1", "else", "end", "set f + 10 x",
                             "end", "call a f 2")
        self.assertEqual(run(program, [0], 2), ("done", [
            (3, "x", 0, 2), (1, "x", 0, 3), (2, "f", 0, 13), (1, "x", 0, 13), (2, "f", 0, 23), (3, "a", 0, 23)], [23]))

    def test_x_is_the_own_name_where_the_call_stands(self):
        program = program_of("box a low", "def f ?", "set f 5", "call f g f", "end", "def g ? y ?", "set g + y 1", "end",
                             "call a f")
        self.assertEqual(run(program, [0], 2), ("done", [
            (0, "f", 0, 5), (1, "y", 0, 5), (2, "g", 0, 6), (1, "f", 0, 6), (3, "a", 0, 6)], [6]))

    def test_x_is_read_in_its_own_arguments_and_changed_in_the_body(self):
        program = program_of("box a low", "def f ? x ?", "set a 50", "set f + x a", "end", "call a f + a a")
        self.assertEqual(run(program, [3], 1), ("done", [
            (2, "x", 0, 6), (0, "a", 0, 50), (1, "f", 0, 56), (2, "a", 0, 56)], [56]))

    def test_parameters_stay_over_a_call_of_the_same_function(self):
        program = program_of("box a low", "def f ? x ? y ?", "if x", "call a f 0 9", "else", "end", "set f + x y", "end",
                             "call a f 1 2")
        self.assertEqual(run(program, [0], 2), ("done", [
            (3, "x", 0, 1), (3, "y", 0, 2), (1, "x", 0, 0), (1, "y", 0, 9), (2, "f", 0, 9), (1, "a", 0, 9),
            (2, "f", 0, 3), (3, "a", 0, 3)], [3]))

    def test_a_call_that_ends_the_run(self):
        program = program_of("box a low", "list r 1 ?", "def f ? x ?", "put r 0 x", "call x f + x 1", "end",
                             "set a 1", "call a f 7", "set a 2")
        for budget in (0, 1, 20):
            moments = [(2, 0, []), (2, 1, [("a", 0, 1)]), (3, 0, [])]
            number = 3
            for k in range(budget):
                moments.extend([(number, 1, [("x", 0, 7 + k)]), (0, 0, []), (0, 1, [("r", 0, 7 + k)]), (1, 0, [])])
                number = 1
            end = [1, [6 + budget if budget else 4]]
            self.told(program, [9, [4]], budget, "spent", moments, end)

    def test_a_while_that_ends_the_run_within_a_call(self):
        program = program_of("box a low", "box b low", "def f ? x ?", "set f 3", "while x", "set b + b 1", "end", "end",
                             "call a f 1", "set b 0")
        moments = [(3, 0, []), (3, 1, [("x", 0, 1)]), (0, 0, []), (0, 1, [("f", 0, 3)]), (1, 0, []),
                   (2, 0, []), (2, 1, [("b", 0, 1)]), (1, 0, [])]
        self.told(program, [8, 0], 2, "spent", moments, [8, 1])

    def test_the_end_of_a_body_is_told_by_the_last_row_of_its_list(self):
        program = program_of("box a low", "def f ?", "set a 1", "if a", "set a 2", "set a 3", "else", "end", "end",
                             "call a f")
        self.assertEqual([moment[:2] for moment in traced(program, [0], 1)], [
            (4, 0), (4, 1), (0, 0), (0, 1), (1, 0), (2, 0), (2, 1), (3, 0), (3, 1), (1, 3), (4, 2), (4, 3)])

    def test_a_body_that_ends_with_a_while_or_a_call(self):
        program = program_of("box a low", "def f ? x ?", "while x", "set x 0", "end", "end",
                             "def g ?", "call g f 1", "end", "call a g")
        self.assertEqual([moment[:2] for moment in traced(program, [0], 3)], [
            (3, 0), (3, 1), (2, 0), (2, 1), (0, 0), (1, 0), (1, 1), (0, 0), (0, 3), (2, 2), (2, 3), (3, 2), (3, 3)])

    def test_calls_and_turns_draw_from_one_budget(self):
        program = program_of("box a low", "def f ?", "end", "while 1", "call a f", "end")
        self.assertEqual([moment[:2] for moment in traced(program, [0], 3)], [
            (0, 0), (1, 0), (1, 1), (1, 2), (0, 0), (1, 0)])
        self.assertEqual(run(program, [0], 3), ("spent", [(1, "a", 0, 0)], [0]))
        self.assertEqual(run(program, [0], 4), ("spent", [(1, "a", 0, 0)] * 2, [0]))

    def test_a_budget_somewhat_beyond(self):
        lines = ["def f ? x ?", "if 1", "if 1", "if 1", "if 1", "call f f + x 1"] + ["else", "end"] * 4 + ["end", "call a f 0"]
        program = program_of("box a low", *lines)
        for budget in (20, 40, 400):
            word, record, values = run(program, [3], budget)
            self.assertEqual((word, len(record), record[-1], values), ("spent", budget, (4, "x", 0, budget - 1), [3]))


class AgainstTheWords(unittest.TestCase):
    def test_made_up_programs(self):
        chance = random.Random(5)
        words = []
        for turn in range(1500):
            names, pairs = chance.choice(ORDERS)
            maker = Maker(chance, names)
            program = maker.program()
            self.assertEqual(faults(Order(names, pairs), program), [])
            values = maker.values(program)
            for budget in (0, 1, chance.randrange(2, 20), 20):
                wanted = ByWords(program, values, budget)
                self.assertEqual(run(program, values, budget), (wanted.word, wanted.record, wanted.values))
                self.assertEqual(traced(program, values, budget), wanted.moments)
                words.append(wanted.word)
        self.assertGreater(min(words.count("done"), words.count("spent")), 500)


class Own(unittest.TestCase):
    def test_the_sample(self):
        values = [1, 2, [0] * 8, [3], 4]
        for budget in (0, 3, 20):
            for ask in (run, traced):
                keeps_to_itself(self, lambda program, some: ask(program, some, budget), sample_program(), values)

    def test_made_up_programs(self):
        chance = random.Random(6)
        for turn in range(150):
            maker = Maker(chance, ["low"])
            program = maker.program()
            values = maker.values(program)
            for ask in (run, traced):
                keeps_to_itself(self, lambda one, some: ask(one, some, 6), program, values)

    def test_one_list_handed_in_for_two_boxes(self):
        program = made_of("ranks low", "list r 2 low", "list s 2 low", "put r 0 7")[1]
        some = [1, 2]
        told = run(program, [some, some], 0)
        self.assertEqual(told, ("done", [(0, "r", 0, 7)], [[7, 2], [1, 2]]))
        self.assertEqual(some, [1, 2])
        own_lists(self, told, some)
        own_lists(self, run(made_of("ranks low", "list r 2 low", "list s 2 low")[1], [some, some], 0), some)

    def test_what_is_done_to_the_input_later_changes_nothing_told(self):
        program = program_of("list r 2 low", "box a low", "put r a a")
        values = [[1, 2], 1]
        told = run(program, values, 0)
        moments = traced(program, values, 0)
        values[0].clear()
        program[3].clear()
        self.assertEqual(told, ("done", [(0, "r", 1, 1)], [[1, 1], 1]))
        self.assertEqual(moments, [(0, 0, []), (0, 1, [("r", 1, 1)]), (0, 3, [])])


if __name__ == "__main__":
    unittest.main()
