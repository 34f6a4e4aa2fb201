import itertools
import random
import unittest

from helpers import box, keeps_to_itself, Maker, num
from hushwise.sums import value_of

LAST = 10 ** 12 - 1


def by_words(expression, boxes):
    """The value as the document's words tell it."""
    kind = expression[0]
    if kind == "num":
        return expression[1]
    if kind == "box":
        return boxes[expression[1]]
    parts = [by_words(one, boxes) for one in expression[1:] if isinstance(one, tuple)]
    if kind == "@":
        return dict(enumerate(boxes[expression[1]])).get(parts[0], 0)
    if kind in "<=":
        return int(parts[0] < parts[1] if kind == "<" else parts[0] == parts[1])
    whole = {"+": parts[0] + parts[1], "-": parts[0] - parts[1], "*": parts[0] * parts[1]}[kind]
    return divmod(whole, 10 ** 12)[1]


class Values(unittest.TestCase):
    def told(self, expression, boxes, answer):
        value = value_of(expression, boxes)
        self.assertEqual(value, answer)
        self.assertIs(type(value), int)

    def test_numbers_and_boxes(self):
        for n in (0, 1, 7, LAST):
            self.told(num(n), {}, n)
            self.told(box("a"), {"a": n, "b": 5}, n)

    def test_each_sign_at_its_edges(self):
        edges = (0, 1, LAST)
        answers = {
            "+": [0, 1, LAST, 1, 2, 0, LAST, 0, LAST - 1],
            "-": [0, LAST, 1, 1, 0, 2, LAST, LAST - 1, 0],
            "*": [0, 0, 0, 0, 1, LAST, 0, LAST, 1],
            "<": [0, 1, 1, 0, 0, 1, 0, 0, 0],
            "=": [1, 0, 0, 0, 1, 0, 0, 0, 1],
        }
        for sign, some in answers.items():
            for (one, other), answer in zip(itertools.product(edges, edges), some):
                self.told((sign, num(one), num(other)), {}, answer)
                self.told((sign, box("a"), box("b")), {"a": one, "b": other}, answer)
                self.told((sign, num(one), ("@", "r", num(1))), {"r": [5, other]}, answer)

    def test_sums_that_pass_the_last_number(self):
        self.told(("+", num(LAST), num(5)), {}, 4)
        self.told(("-", num(3), num(5)), {}, LAST - 1)
        self.told(("*", num(10 ** 6), num(10 ** 6)), {}, 0)
        self.told(("*", num(10 ** 11), num(25)), {}, 5 * 10 ** 11)
        self.told(("<", ("-", num(0), num(1)), num(0)), {}, 0)
        self.told(("=", ("+", num(LAST), num(1)), num(0)), {}, 1)

    def test_places(self):
        numbers = [3, 1, 4, 1, 5, 9, 2, 6]
        for size in range(1, 9):
            for place, n in enumerate(numbers[:size]):
                self.told(("@", "r", num(place)), {"r": numbers[:size]}, n)
            for place in (size, size + 1, 100, LAST):
                self.told(("@", "r", num(place)), {"r": numbers[:size]}, 0)

    def test_places_that_are_reckoned(self):
        boxes = {"r": [2, 0, 7], "a": 1}
        self.told(("@", "r", ("@", "r", num(0))), boxes, 7)
        self.told(("@", "r", ("+", box("a"), box("a"))), boxes, 7)
        self.told(("@", "r", ("-", num(0), box("a"))), boxes, 0)
        self.told(("@", "r", ("<", num(0), box("a"))), boxes, 0)
        self.told(("@", "r", ("=", num(0), box("a"))), boxes, 2)

    def test_the_first_part_stands_first(self):
        boxes = {"a": 2, "b": 9}
        self.told(("-", box("b"), ("*", box("a"), num(3))), boxes, 3)
        self.told(("-", ("-", box("b"), box("a")), num(1)), boxes, 6)
        self.told(("<", box("a"), box("b")), boxes, 1)
        self.told(("<", box("b"), box("a")), boxes, 0)

    def test_truths_are_numbers_also_within(self):
        self.told(("+", ("<", num(0), num(1)), ("=", num(2), num(2))), {}, 2)
        self.told(("=", ("<", num(0), num(1)), num(1)), {}, 1)

    def test_names_that_are_words(self):
        self.told(("+", box("num"), ("@", "box", box("num"))), {"num": 1, "box": [5, 6]}, 7)

    def test_made_up_expressions(self):
        chance = random.Random(11)
        maker = Maker(chance, [])
        maker.lists = ["r", "s"]
        boxes = {"a": 1, "b": LAST, "c": 0, "r": [0, 2, LAST], "s": [1]}
        for turn in range(2000):
            expression = maker.expression(["a", "b", "c"], 6)
            self.told(expression, boxes, by_words(expression, boxes))

    def test_what_is_handed_in_stays(self):
        expression = ("+", box("a"), ("@", "r", num(0)))
        keeps_to_itself(self, lambda boxes: value_of(expression, boxes), {"a": 4, "r": [1, 2]})


if __name__ == "__main__":
    unittest.main()
