import unittest

from hushwise.errors import HushError, NoFit, NoInput, NoName, NoOrder, NoRow, NoText


class Errors(unittest.TestCase):
    def test_each_refusal_stands_straight_under_the_one_for_all(self):
        self.assertEqual(HushError.__bases__, (ValueError,))
        for kind in (NoName, NoOrder, NoText, NoInput, NoFit, NoRow):
            self.assertEqual(kind.__bases__, (HushError,))

    def test_they_are_unlike_classes(self):
        self.assertEqual(len({HushError, NoName, NoOrder, NoText, NoInput, NoFit, NoRow}), 7)

    def test_no_text_bears_its_line(self):
        with self.assertRaises(HushError) as caught:
            raise NoText(3)
        self.assertEqual(caught.exception.line, 3)

    def test_no_fit_bears_a_list_of_its_own(self):
        given = [(0, "box", "a")]
        error = NoFit(given)
        error.faults.append((1, "box", "b"))
        self.assertEqual(given, [(0, "box", "a")])
        self.assertEqual(error.faults, [(0, "box", "a"), (1, "box", "b")])


if __name__ == "__main__":
    unittest.main()
