import itertools
import unittest

from helpers import keeps_to_itself
from hushwise.errors import NoName, NoOrder
from hushwise.orders import Order, is_name, lack_of, ring_of


def closed(names, pairs):
    """The tuples (low, high) of which low is under high, by filling a table of all steps."""
    under = {(name, name) for name in names} | set(pairs)
    for middle in names:
        for low in names:
            for high in names:
                if (low, middle) in under and (middle, high) in under:
                    under.add((low, high))
    return under


def joins(names, under, some):
    """All ranks that are a join of some ranks by the words of the document."""
    above = [rank for rank in names if all((one, rank) in under for one in some)]
    return [rank for rank in above if all((rank, other) in under for other in above)]


def meets(names, under, some):
    return joins(names, {(high, low) for low, high in under}, some)


def is_ring(names, pairs, ring):
    steps = zip(ring, ring[1:] + ring[:1])
    unlike = len(ring) >= 2 and len(set(ring)) == len(ring)
    return unlike and set(ring) <= set(names) and all(step in pairs for step in steps)


def subsets(some):
    for size in range(len(some) + 1):
        yield from itertools.combinations(some, size)


CHAINS = [([chr(97 + k) for k in range(many)], [(chr(97 + k), chr(98 + k)) for k in range(many - 1)])
          for many in range(1, 9)]
DIAMOND = (["top", "l", "r", "bot"], [("bot", "l"), ("bot", "r"), ("l", "top"), ("r", "top")])
THREE_BETWEEN = (["a", "b", "c", "d", "e"], [("a", "b"), ("a", "c"), ("a", "d"), ("b", "e"), ("c", "e"), ("d", "e")])
PENTAGON = (["a", "b", "c", "d", "e"], [("a", "b"), ("b", "c"), ("c", "e"), ("a", "d"), ("d", "e")])
CUBE = (["o", "x", "y", "z", "xy", "xz", "yz", "xyz"],
        [("o", "x"), ("o", "y"), ("o", "z"), ("x", "xy"), ("y", "xy"), ("x", "xz"), ("z", "xz"), ("y", "yz"),
         ("z", "yz"), ("xy", "xyz"), ("xz", "xyz"), ("yz", "xyz")])
ORDERS = CHAINS + [DIAMOND, THREE_BETWEEN, PENTAGON, CUBE]

NO_TOP = (["o", "a", "b"], [("o", "a"), ("o", "b")])
NO_BOTTOM = (["a", "b", "t"], [("a", "t"), ("b", "t")])
CROSSED = (["o", "a", "b", "c", "d", "t"],
           [("o", "a"), ("o", "b"), ("a", "c"), ("a", "d"), ("b", "c"), ("b", "d"), ("c", "t"), ("d", "t")])


class IsName(unittest.TestCase):
    def test_one_to_eight_small_letters(self):
        for text in ("a", "z", "m", "abcdefgh", "zzzzzzzz", "end", "main", "ranks"):
            self.assertIs(is_name(text), True, text)

    def test_each_sign_alone(self):
        for number in range(300):
            self.assertIs(is_name(chr(number)), number in range(97, 123), number)

    def test_too_few_or_too_many(self):
        for text in ("", "abcdefghi", "a" * 20):
            self.assertIs(is_name(text), False, text)

    def test_other_signs(self):
        others = "A Z aB Ab 1 a1 1a _ a_b - ? @ + { `".split(" ")
        others += [" ", "a b", " a", "a ", "\n", "a\n", "\na", "a\nb", "\t", "\u00e9", "a\u00e9", "\u00df", "\u03b1", "\u0131"]
        for text in others:
            self.assertIs(is_name(text), False, repr(text))


class Rings(unittest.TestCase):
    def test_no_ring(self):
        for names, pairs in ORDERS + [NO_TOP, NO_BOTTOM, CROSSED, ([], []), (["a", "b"], [])]:
            self.assertIsNone(ring_of(names, pairs))

    def test_a_pair_with_itself_is_no_ring(self):
        self.assertIsNone(ring_of(["a"], [("a", "a")]))
        self.assertIsNone(ring_of(["a", "b"], [("a", "a"), ("a", "b"), ("b", "b")]))

    def test_the_same_pair_twice_is_no_ring(self):
        self.assertIsNone(ring_of(["a", "b"], [("a", "b"), ("a", "b")]))

    def test_ring_of_two(self):
        self.assertIn(ring_of(["a", "b"], [("a", "b"), ("b", "a")]), [["a", "b"], ["b", "a"]])

    def test_ring_of_all_eight(self):
        names = CHAINS[7][0]
        pairs = CHAINS[7][1] + [("h", "a")]
        ring = ring_of(names, pairs)
        self.assertEqual(sorted(ring), names)
        self.assertTrue(is_ring(names, pairs, ring))

    def test_ring_with_ways_in_and_out(self):
        names = ["in", "a", "b", "c", "out"]
        pairs = [("in", "a"), ("a", "a"), ("a", "out"), ("a", "b"), ("b", "c"), ("c", "out"), ("c", "a"), ("in", "out")]
        self.assertTrue(is_ring(names, pairs, ring_of(names, pairs)))

    def test_every_list_of_pairs_of_few_ranks(self):
        for names in (["a"], ["a", "b"], ["a", "b", "c"]):
            for pairs in subsets(list(itertools.product(names, names))):
                self.one_way(names, list(pairs))

    def test_every_list_of_pairs_of_four_unlike_ranks(self):
        names = ["a", "b", "c", "d"]
        for pairs in subsets(list(itertools.permutations(names, 2))):
            self.one_way(names, list(pairs))

    def one_way(self, names, pairs):
        under = closed(names, pairs)
        ring = ring_of(names, pairs)
        if any(low != high and (high, low) in under for low, high in under):
            self.assertTrue(is_ring(names, pairs, ring), (pairs, ring))
        else:
            self.assertIsNone(ring)
            self.right_lack(names, pairs, under)

    def right_lack(self, names, pairs, under):
        lack = lack_of(names, pairs)
        twos = list(itertools.product(names, names))
        lacks = [("join", *two) for two in twos if not joins(names, under, two)]
        lacks += [("meet", *two) for two in twos if not meets(names, under, two)]
        if lacks:
            self.assertIn(lack, lacks)
            self.assertRaises(NoOrder, Order, names, pairs)
        else:
            self.assertIsNone(lack)
            self.assertEqual(Order(names, pairs).ranks(), names)


class Lacks(unittest.TestCase):
    def test_no_lack(self):
        for names, pairs in ORDERS + [([], [])]:
            self.assertIsNone(lack_of(names, pairs))

    def test_lack_of_a_join(self):
        self.assertIn(lack_of(*NO_TOP), [("join", "a", "b"), ("join", "b", "a")])

    def test_lack_of_a_meet(self):
        self.assertIn(lack_of(*NO_BOTTOM), [("meet", "a", "b"), ("meet", "b", "a")])

    def test_lack_between_two_that_are_both_above(self):
        right = [("join", "a", "b"), ("join", "b", "a"), ("meet", "c", "d"), ("meet", "d", "c")]
        self.assertIn(lack_of(*CROSSED), right)

    def test_two_apart(self):
        lack = lack_of(["a", "b"], [("a", "a")])
        self.assertIn(lack[0], ("join", "meet"))
        self.assertEqual(sorted(lack[1:]), ["a", "b"])


class Making(unittest.TestCase):
    def test_no_name(self):
        for bad in ("", "abcdefghi", "A", "a1", "a b", "a\n", "?"):
            self.assertRaises(NoName, Order, [bad], [])
            self.assertRaises(NoName, Order, ["a", bad], [("a", bad)])

    def test_a_name_twice(self):
        self.assertRaises(NoName, Order, ["a", "a"], [])
        self.assertRaises(NoName, Order, ["a", "b", "a"], [("a", "b")])

    def test_a_stranger_in_a_pair(self):
        for pair in (("a", "x"), ("x", "a"), ("x", "x"), ("x", "y"), ("", "a")):
            self.assertRaises(NoName, Order, ["a"], [pair])
            self.assertRaises(NoName, Order, [], [pair])

    def test_no_order(self):
        self.assertRaises(NoOrder, Order, [], [])
        self.assertRaises(NoOrder, Order, ["a", "b"], [])
        self.assertRaises(NoOrder, Order, ["a", "b"], [("a", "b"), ("b", "a")])
        for names, pairs in (NO_TOP, NO_BOTTOM, CROSSED):
            self.assertRaises(NoOrder, Order, names, pairs)

    def test_no_name_comes_ahead_of_no_order(self):
        ring = [("a", "b"), ("b", "a")]
        self.assertRaises(NoName, Order, ["a", "b", "a"], ring)
        self.assertRaises(NoName, Order, ["a", "b", "C"], ring)
        self.assertRaises(NoName, Order, ["a", "b"], ring + [("x", "x")])
        self.assertRaises(NoName, Order, ["a", "b"], [("a", "x")])
        self.assertRaises(NoName, Order, NO_TOP[0] + ["o"], NO_TOP[1])

    def test_pairs_that_say_nothing_new(self):
        order = Order(["a", "b"], [("a", "b"), ("a", "a"), ("a", "b"), ("b", "b")])
        self.assertIs(order.under("a", "b"), True)
        self.assertIs(order.under("b", "a"), False)


class Asking(unittest.TestCase):
    def test_by_the_words_of_the_document(self):
        for names, pairs in ORDERS:
            order = Order(names, pairs)
            under = closed(names, pairs)
            self.assertEqual(order.ranks(), names)
            self.assertEqual([order.least()], meets(names, under, names))
            self.assertEqual([order.greatest()], joins(names, under, names))
            for two in itertools.product(names, names):
                self.assertIs(order.under(*two), two in under)
                self.assertEqual([order.join(*two)], joins(names, under, two))
                self.assertEqual([order.meet(*two)], meets(names, under, two))

    def test_ordinary_answers(self):
        order = Order(*DIAMOND)
        self.assertEqual(order.join("l", "r"), "top")
        self.assertEqual(order.meet("l", "r"), "bot")
        self.assertEqual(order.join("l", "bot"), "l")
        self.assertIs(order.under("bot", "top"), True)
        self.assertIs(order.under("l", "r"), False)
        self.assertEqual((order.least(), order.greatest()), ("bot", "top"))

    def test_joined(self):
        order = Order(*CUBE)
        under = closed(*CUBE)
        for some in subsets(CUBE[0]):
            self.assertEqual([order.joined(list(some))], joins(CUBE[0], under, some))
        self.assertEqual(order.joined(["x", "x"]), "x")
        self.assertEqual(order.joined(["y", "x", "y"]), "xy")

    def test_joined_of_none_is_the_least(self):
        for names, pairs in ORDERS:
            order = Order(names, pairs)
            self.assertEqual(order.joined([]), order.least())

    def test_one_rank_alone(self):
        order = Order(["a"], [("a", "a")])
        self.assertEqual((order.least(), order.greatest(), order.join("a", "a")), ("a", "a", "a"))

    def test_strangers(self):
        for names, pairs in (DIAMOND, CHAINS[0], CUBE):
            order = Order(names, pairs)
            known = names[0]
            for ask in (order.under, order.join, order.meet):
                for two in (("q", known), (known, "q"), ("q", "q"), ("q", "p"), ("", known), ("", "")):
                    self.assertRaises(NoName, ask, *two)
            for some in (["q"], ["q", "q"], [known, "q"], ["q", known], [order.greatest(), "q"], [""]):
                self.assertRaises(NoName, order.joined, some)


class Own(unittest.TestCase):
    def test_what_is_handed_in_stays_and_what_is_told_is_new(self):
        ring = (["a", "b", "c"], [("a", "b"), ("b", "c"), ("c", "a")])
        keeps_to_itself(self, ring_of, *ring)
        keeps_to_itself(self, lack_of, *CROSSED)
        keeps_to_itself(self, lambda names, pairs: Order(names, pairs).ranks(), *CUBE)

    def test_an_order_stays_as_it_was_made(self):
        names = ["a", "b", "c"]
        pairs = [("a", "b"), ("b", "c")]
        order = Order(names, pairs)
        names.append("d")
        names[0] = "z"
        pairs.clear()
        pairs.append(("c", "a"))
        self.assertEqual(order.ranks(), ["a", "b", "c"])
        self.assertIs(order.under("a", "c"), True)
        self.assertIs(order.under("c", "a"), False)
        self.assertRaises(NoName, order.under, "d", "d")

    def test_ranks_are_the_askers(self):
        order = Order(["a", "b"], [("a", "b")])
        told = order.ranks()
        told.append("c")
        told.reverse()
        self.assertEqual(order.ranks(), ["a", "b"])
        self.assertRaises(NoName, order.join, "c", "c")
        self.assertEqual(order.joined([]), "a")

    def test_joined_leaves_its_list(self):
        order = Order(*DIAMOND)
        some = ["l", "r", "l"]
        self.assertEqual(order.joined(some), "top")
        self.assertEqual(some, ["l", "r", "l"])


if __name__ == "__main__":
    unittest.main()
