import copy
import random
import unittest

from helpers import box, keeps_to_itself, made_telling, num, sample_program, SAMPLE_NAMES, SAMPLE_PAIRS
from hushwise.orders import Order
from hushwise.programs import faults, many, names_in, numbered, spends

SET = ("set", "a", num(1))
PUT = ("put", "r", num(0), num(1))
OUT = ("out", "a", num(1), "ann")
CALL = ("call", "a", "f", [])
EMPTY_IF = ("if", num(0), [], [])
EMPTY_WHILE = ("while", num(0), [])


def either(first, second):
    return ("if", box("a"), first, second)


def during(rows):
    return ("while", box("a"), rows)


class Many(unittest.TestCase):
    def test_none(self):
        self.assertEqual(many([]), 0)

    def test_rows_without_blocks(self):
        self.assertEqual(many([SET, PUT, OUT, CALL]), 4)

    def test_blocks_without_rows(self):
        self.assertEqual(many([EMPTY_IF, EMPTY_WHILE]), 2)

    def test_both_blocks_count(self):
        self.assertEqual(many([either([SET], [])]), 2)
        self.assertEqual(many([either([], [SET, SET])]), 3)
        self.assertEqual(many([either([SET], [SET]), SET]), 4)

    def test_four_deep(self):
        self.assertEqual(many([during([either([SET], [during([either([], [SET]), SET])])])]), 7)


class Numbered(unittest.TestCase):
    def test_no_rows(self):
        self.assertEqual(numbered(([], [], [], [])), [])
        self.assertEqual(numbered(([], [], [("f", None, [], [])], [])), [])

    def test_functions_in_their_order_then_main(self):
        functions = [("g", None, [], [SET, PUT]), ("e", None, [], []), ("f", None, [], [OUT])]
        self.assertEqual(numbered(([], [], functions, [CALL])), [
            ("g", None, 0, SET), ("g", None, 0, PUT), ("f", None, 0, OUT), ("main", None, 0, CALL)])

    def test_a_row_then_its_first_then_its_second_block(self):
        row = either([SET, PUT], [OUT])
        self.assertEqual(numbered(([], [], [], [row, CALL])), [
            ("main", None, 0, row), ("main", 0, 0, SET), ("main", 0, 0, PUT), ("main", 0, 1, OUT),
            ("main", None, 0, CALL)])

    def test_four_deep_with_empty_blocks(self):
        fourth = either([], [SET])
        third = during([fourth, EMPTY_IF])
        second = either([EMPTY_WHILE], [third])
        first = during([second])
        functions = [("f", None, [], [SET, first, PUT])]
        self.assertEqual(numbered(([], [], functions, [first])), [
            ("f", None, 0, SET), ("f", None, 0, first), ("f", 1, 0, second), ("f", 2, 0, EMPTY_WHILE),
            ("f", 2, 1, third), ("f", 4, 0, fourth), ("f", 5, 1, SET), ("f", 4, 0, EMPTY_IF), ("f", None, 0, PUT),
            ("main", None, 0, first), ("main", 9, 0, second), ("main", 10, 0, EMPTY_WHILE), ("main", 10, 1, third),
            ("main", 12, 0, fourth), ("main", 13, 1, SET), ("main", 12, 0, EMPTY_IF)])

    def test_the_sample(self):
        program = sample_program()
        told = numbered(program)
        self.assertEqual([one[:3] for one in told], [
            ("f", None, 0), ("f", None, 0), ("f", 1, 0),
            ("main", None, 0), ("main", None, 0), ("main", None, 0), ("main", None, 0), ("main", None, 0),
            ("main", None, 0), ("main", 8, 0), ("main", 9, 0), ("main", 10, 0), ("main", 10, 1), ("main", 8, 1),
            ("main", None, 0)])
        self.assertEqual(told[13][3], ("set", "s", num(7)))
        self.assertEqual(told[10][3], program[3][5][2][0][2][0])

    def test_as_many_as_there_are_and_each_found_where_it_is_told(self):
        chance = random.Random(7)
        for turn in range(300):
            program = made_telling(chance)[2]
            told = numbered(program)
            self.assertEqual(len(told), many(program[3]) + sum(many(one[3]) for one in program[2]))
            for number, (where, above, block, row) in enumerate(told):
                if above is None:
                    self.assertEqual(block, 0)
                else:
                    self.assertLess(above, number)
                    self.assertEqual(told[above][0], where)
                    self.assertIn(row, told[above][3][2 + block])


class NamesIn(unittest.TestCase):
    def test_each_kind(self):
        self.assertEqual(names_in(num(3)), [])
        self.assertEqual(names_in(box("a")), ["a"])
        self.assertEqual(names_in(("@", "r", num(0))), ["r"])
        for sign in "+-*<=":
            self.assertEqual(names_in((sign, box("b"), box("a"))), ["a", "b"])

    def test_sorted_and_each_once(self):
        told = ("+", ("@", "z", ("*", box("m"), box("a"))), ("-", box("m"), ("@", "a", ("@", "z", box("k")))))
        self.assertEqual(names_in(told), ["a", "k", "m", "z"])

    def test_names_that_are_words(self):
        self.assertEqual(names_in(("<", box("num"), ("@", "box", box("main")))), ["box", "main", "num"])


class Spends(unittest.TestCase):
    def test_alone(self):
        for row, answer in ((SET, False), (PUT, False), (OUT, False), (EMPTY_IF, False), (CALL, True), (EMPTY_WHILE, True)):
            self.assertIs(spends(row), answer)

    def test_in_blocks(self):
        self.assertIs(spends(either([SET, OUT], [PUT])), False)
        self.assertIs(spends(either([SET, CALL], [])), True)
        self.assertIs(spends(either([], [SET, EMPTY_WHILE])), True)
        self.assertIs(spends(during([SET])), True)

    def test_four_deep(self):
        self.assertIs(spends(either([], [either([either([SET, either([SET], [CALL])], [])], [])])), True)
        self.assertIs(spends(either([SET], [either([either([SET, either([SET], [PUT])], [])], [])])), False)


class Faults(unittest.TestCase):
    def setUp(self):
        self.order = Order(SAMPLE_NAMES, SAMPLE_PAIRS)

    def told(self, boxes=(), grants=(), functions=(), rows=()):
        return faults(self.order, (list(boxes), list(grants), list(functions), list(rows)))

    def test_none(self):
        self.assertEqual(self.told(), [])
        self.assertEqual(faults(self.order, sample_program()), [])

    def test_name(self):
        for bad in ("", "A", "abcdefghi", "a1", "a\n"):
            fault = [(-1, "name", bad)]
            self.assertEqual(self.told(boxes=[(bad, 0, None)]), fault)
            self.assertEqual(self.told(boxes=[(bad, 3, "low")]), fault)
            self.assertEqual(self.told(grants=[(bad, "low", "low")]), fault)
            self.assertEqual(self.told(functions=[(bad, None, [], [])]), fault)
            self.assertEqual(self.told(functions=[("f", None, [("x", None), (bad, None)], [])]), fault)

    def test_main_is_a_name_for_a_who_alone(self):
        fault = [(-1, "name", "main")]
        self.assertEqual(self.told(boxes=[("main", 0, None)]), fault)
        self.assertEqual(self.told(boxes=[("main", 2, None)]), fault)
        self.assertEqual(self.told(functions=[("main", None, [], [])]), fault)
        self.assertEqual(self.told(functions=[("f", None, [("main", None)], [])]), fault)
        self.assertEqual(self.told(grants=[("main", "low", "low")]), [])

    def test_twice(self):
        fault = [(-1, "twice", "a")]
        one = ("a", 0, None)
        self.assertEqual(self.told(boxes=[one, ("b", 0, None), one]), fault)
        self.assertEqual(self.told(boxes=[one, one, one]), fault)
        self.assertEqual(self.told(boxes=[one], functions=[("a", None, [], [])]), fault)
        self.assertEqual(self.told(boxes=[("a", 4, None)], functions=[("f", None, [("a", None)], [])]), fault)
        self.assertEqual(self.told(functions=[("a", None, [], []), ("a", None, [], [])]), fault)
        self.assertEqual(self.told(functions=[("a", None, [("a", None)], [])]), fault)
        self.assertEqual(self.told(functions=[("f", None, [("a", None), ("a", None)], [])]), fault)
        self.assertEqual(self.told(functions=[("f", None, [("a", None)], []), ("g", None, [("a", None)], [])]), fault)

    def test_twice_among_grants(self):
        grant = ("a", "low", "low")
        self.assertEqual(self.told(grants=[grant, ("b", "low", "low"), grant]), [(-1, "twice", "a")])
        self.assertEqual(self.told(boxes=[("a", 0, None)], grants=[grant]), [])
        self.assertEqual(self.told(functions=[("a", None, [], [])], grants=[grant]), [])

    def test_rank(self):
        fault = [(-1, "rank", "odd")]
        self.assertEqual(self.told(boxes=[("a", 0, "odd")]), fault)
        self.assertEqual(self.told(boxes=[("a", 2, "odd"), ("b", 0, "odd")]), fault)
        self.assertEqual(self.told(functions=[("f", "odd", [], [])]), fault)
        self.assertEqual(self.told(functions=[("f", None, [("x", "low"), ("y", "odd")], [])]), fault)
        self.assertEqual(self.told(grants=[("a", "odd", "low")]), fault)
        self.assertEqual(self.told(grants=[("a", "low", "odd")]), fault)
        self.assertEqual(self.told(grants=[("a", "", "B")]), [(-1, "rank", ""), (-1, "rank", "B")])

    def test_grants_of_any_two_ranks(self):
        self.assertEqual(self.told(grants=[("a", "low", "high"), ("b", "mid", "mid")]), [])

    def test_size(self):
        for size in range(9):
            self.assertEqual(self.told(boxes=[("a", size, None)]), [])
        for size in (-1, 9, 100):
            self.assertEqual(self.told(boxes=[("a", size, None)]), [(-1, "size", "a")])

    def test_box_given_a_value(self):
        grants = [("ann", "low", "low")]
        functions = [("f", None, [], [])]
        for row in (("set", "x", num(1)), ("out", "x", num(1), "ann"), ("call", "x", "f", [])):
            self.assertEqual(self.told(grants=grants, functions=functions, rows=[row]), [(0, "box", "x")])
            told = self.told(boxes=[("x", 3, None)], grants=grants, functions=functions, rows=[row])
            self.assertEqual(told, [(0, "box", "x")])
            told = self.told(boxes=[("x", 0, None)], grants=grants, functions=functions, rows=[row])
            self.assertEqual(told, [])

    def rows_that_read(self, expression):
        return [("set", "a", expression), ("put", "r", expression, num(0)), ("put", "r", num(0), expression),
                ("out", "a", expression, "ann"), ("call", "a", "f", [num(0), expression]),
                ("call", "a", "f", [expression, num(0)]), ("if", expression, [], []), ("while", expression, [])]

    def told_of_reading(self, row, more=()):
        return self.told([("a", 0, None), ("r", 8, None)] + list(more), [("ann", "low", "low")],
                         [("f", None, [("p", None), ("q", None)], [])], [SET, row])

    def test_box_read(self):
        for row in self.rows_that_read(("+", num(1), ("@", "r", box("x")))):
            self.assertEqual(self.told_of_reading(row), [(1, "box", "x")])
            self.assertEqual(self.told_of_reading(row, [("x", 1, None)]), [(1, "box", "x")])
            self.assertEqual(self.told_of_reading(row, [("x", 0, None)]), [])

    def test_list_read(self):
        for row in self.rows_that_read(("*", ("@", "x", num(1)), box("a"))):
            self.assertEqual(self.told_of_reading(row), [(1, "list", "x")])
            self.assertEqual(self.told_of_reading(row, [("x", 0, None)]), [(1, "list", "x")])
            self.assertEqual(self.told_of_reading(row, [("x", 1, None)]), [])

    def test_list_put_to(self):
        row = ("put", "x", num(0), num(0))
        self.assertEqual(self.told(rows=[row]), [(0, "list", "x")])
        self.assertEqual(self.told(boxes=[("x", 0, None)], rows=[row]), [(0, "list", "x")])
        self.assertEqual(self.told(boxes=[("x", 8, None)], rows=[row]), [])

    def test_a_size_out_of_bounds_is_another_than_nought(self):
        rows = [("put", "x", num(0), num(0)), ("set", "a", box("x"))]
        for size in (-1, 9):
            told = self.told(boxes=[("x", size, None), ("a", 0, None)], rows=rows)
            self.assertEqual(told, [(-1, "size", "x"), (1, "box", "x")])

    def test_parameters_and_functions_are_no_list_boxes(self):
        rows = [("put", "f", num(0), num(0)), ("set", "f", ("@", "x", num(0)))]
        told = self.told(functions=[("f", None, [("x", None)], rows)])
        self.assertEqual(told, [(0, "list", "f"), (1, "list", "x")])

    def test_own_name_and_parameters_in_the_own_body_alone(self):
        use_f = ("set", "f", box("x"))
        use_g = ("set", "g", box("y"))
        deep = ("if", num(1), [], [("while", num(0), [("if", box("x"), [use_f], [use_g])])])
        functions = [("f", None, [("x", None)], [deep]), ("g", None, [("y", None)], [use_g, use_f])]
        self.assertEqual(self.told(functions=functions, rows=[use_f]), [
            (4, "box", "g"), (4, "box", "y"), (6, "box", "f"), (6, "box", "x"), (7, "box", "f"), (7, "box", "x")])

    def test_boxes_of_the_program_are_known_in_every_body(self):
        rows = [("set", "a", ("@", "r", box("a"))), ("put", "r", box("a"), box("f"))]
        self.assertEqual(self.told([("a", 0, None), ("r", 2, None)], (), [("f", None, [], rows)], rows[:1]), [])

    def test_two_functions_of_one_name_have_each_their_own_head(self):
        functions = [("f", None, [("x", None)], [("set", "f", box("x")), ("set", "f", box("y"))]),
                     ("f", None, [("y", None)], [("set", "f", box("x")), ("set", "f", box("y"))])]
        self.assertEqual(self.told(functions=functions), [(-1, "twice", "f"), (1, "box", "y"), (2, "box", "x")])

    def test_a_function_by_the_name_main_is_not_the_body_of_main(self):
        row = ("set", "main", box("x"))
        told = self.told(functions=[("main", None, [("x", None)], [row])], rows=[row])
        self.assertEqual(told, [(-1, "name", "main"), (1, "box", "main"), (1, "box", "x")])

    def test_call(self):
        boxes = [("a", 0, None), ("g", 0, None)]
        functions = [("f", None, [("x", None)], [("call", "f", "g", [box("x")])])]
        rows = [("call", "a", "f", [num(1)]), ("call", "a", "h", []), ("call", "a", "x", []), ("call", "a", "main", [])]
        self.assertEqual(self.told(boxes, (), functions, rows), [
            (0, "call", "g"), (2, "call", "h"), (3, "call", "x"), (4, "call", "main")])

    def test_functions_may_call_themselves_and_each_other(self):
        functions = [("f", None, [], [("call", "f", "g", []), ("call", "f", "f", [])]),
                     ("g", None, [], [("call", "g", "f", [])])]
        self.assertEqual(self.told(functions=functions), [])

    def test_many(self):
        functions = [("f", None, [("x", None), ("y", None)], []), ("g", None, [], [])]
        rows = [("call", "a", "f", [num(1)] * count) for count in range(4)]
        rows.append(("call", "a", "g", [num(0)]))
        self.assertEqual(self.told([("a", 0, None)], (), functions, rows), [
            (0, "many", "f"), (1, "many", "f"), (3, "many", "f"), (4, "many", "g")])

    def test_many_goes_by_the_first_function_of_the_name(self):
        functions = [("f", None, [("x", None)], []), ("f", None, [], [])]
        rows = [("call", "a", "f", [num(1)]), ("call", "a", "f", [])]
        told = self.told([("a", 0, None)], (), functions, rows)
        self.assertEqual(told, [(-1, "twice", "f"), (1, "many", "f")])

    def test_who(self):
        rows = [("out", "a", num(1), "ann"), ("out", "a", num(1), "bob"), ("out", "a", num(1), "a")]
        told = self.told([("a", 0, None)], [("ann", "low", "low")], (), rows)
        self.assertEqual(told, [(1, "who", "bob"), (2, "who", "a")])

    def test_what_stands_in_blocks_counts_there(self):
        row = either([("set", "x", num(0))], [during([("set", "y", box("z"))])])
        self.assertEqual(self.told(boxes=[("a", 0, None)], rows=[row]), [
            (1, "box", "x"), (3, "box", "y"), (3, "box", "z")])

    def test_names_that_are_both_by_standing_twice(self):
        rows = [("set", "a", ("@", "a", box("a"))), ("put", "a", num(0), num(0))]
        told = self.told(boxes=[("a", 0, None), ("a", 2, None)], rows=rows)
        self.assertEqual(told, [(-1, "twice", "a")])

    def test_several_at_once_sorted_and_each_once(self):
        boxes = [("Z", 9, "odd"), ("Z", -1, "odd"), ("a", 0, "odder")]
        grants = [("B", "odd", "low"), ("B", "low", "even")]
        functions = [("f", None, [("main", "odd")], [("call", "q", "f", [box("q"), ("@", "q", box("q"))])])]
        rows = [("out", "p", ("+", box("p"), ("@", "a", box("p"))), "ann"), ("call", "a", "k", [box("p"), box("p")])]
        self.assertEqual(self.told(boxes, grants, functions, rows), [
            (-1, "name", "B"), (-1, "name", "Z"), (-1, "name", "main"),
            (-1, "rank", "even"), (-1, "rank", "odd"), (-1, "rank", "odder"),
            (-1, "size", "Z"), (-1, "twice", "B"), (-1, "twice", "Z"),
            (0, "box", "q"), (0, "list", "q"), (0, "many", "f"),
            (1, "box", "p"), (1, "list", "a"), (1, "who", "ann"),
            (2, "box", "p"), (2, "call", "k")])

    def test_numbers_are_sorted_as_numbers(self):
        told = self.told(rows=[("set", "x", num(0))] * 12)
        self.assertEqual(told, [(k, "box", "x") for k in range(12)])


class Own(unittest.TestCase):
    def test_the_sample(self):
        order = Order(SAMPLE_NAMES, SAMPLE_PAIRS)
        keeps_to_itself(self, numbered, sample_program())
        keeps_to_itself(self, lambda program: many(program[3]), sample_program())
        keeps_to_itself(self, lambda program: [spends(row) for row in program[3]], sample_program())
        keeps_to_itself(self, lambda program: faults(order, program), sample_program())
        keeps_to_itself(self, names_in, ("+", box("a"), ("@", "r", num(1))))

    def test_made_up_programs(self):
        order = Order(SAMPLE_NAMES, SAMPLE_PAIRS)
        chance = random.Random(3)
        for turn in range(100):
            program = made_telling(chance)[2]
            keeps_to_itself(self, numbered, program)
            keeps_to_itself(self, lambda one: faults(order, one), program)

    def test_a_program_that_holds_one_list_in_many_places(self):
        block = [SET]
        arguments = [num(1)]
        rows = [either(block, block), during(block), ("call", "a", "f", arguments), ("call", "a", "f", arguments)]
        keeps_to_itself(self, numbered, ([], [], [("f", None, [], block)], rows))

    def test_what_is_done_to_the_program_later_changes_nothing_told(self):
        program = sample_program()
        told = numbered(program)
        kept = copy.deepcopy(told)
        program[3][5][2].clear()
        program[3][4][3].append(num(0))
        program[2][0][3].clear()
        program[3].clear()
        self.assertEqual(told, kept)


if __name__ == "__main__":
    unittest.main()
