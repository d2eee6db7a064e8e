import itertools
import unittest

from helper import as_row
from twowaypen.rows import filled, together


class Together(unittest.TestCase):
    def test_no_pieces(self):
        self.assertEqual(together([]), ())

    def test_one_piece(self):
        self.assertEqual(together(["a"]), ("a",))
        self.assertEqual(together(["ab0" * 30]), ("ab0" * 30,))
        self.assertEqual(together([0]), (0,))
        self.assertEqual(together([7]), (7,))

    def test_texts_without_signs_are_left_out(self):
        self.assertEqual(together([""]), ())
        self.assertEqual(together(["", "", ""]), ())
        self.assertEqual(together(["", "a"]), ("a",))
        self.assertEqual(together(["a", ""]), ("a",))
        self.assertEqual(together(["", 0, ""]), (0,))
        self.assertEqual(together([1, "", "", 0]), (1, 0))

    def test_texts_side_by_side_are_put_to_one(self):
        self.assertEqual(together(["a", "b"]), ("ab",))
        self.assertEqual(together(["ab", "c", "0", "ab"]), ("abc0ab",))
        self.assertEqual(together([0, "a", "b", 1, "c", "d"]), (0, "ab", 1, "cd"))

    def test_also_where_one_without_signs_stood_between_them(self):
        self.assertEqual(together(["a", "", "b"]), ("ab",))
        self.assertEqual(together(["a", "", "", "b", 3, "c", "", "d"]), ("ab", 3, "cd"))

    def test_texts_with_a_box_between_them_stay_two(self):
        self.assertEqual(together(["a", 0, "b"]), ("a", 0, "b"))
        self.assertEqual(together(["a", 0, "", 1, "b"]), ("a", 0, 1, "b"))

    def test_boxes_stay_as_many_as_they_are_and_in_their_order(self):
        self.assertEqual(together([3, 1, 2]), (3, 1, 2))
        self.assertEqual(together([0, 0, 1, 0]), (0, 0, 1, 0))

    def test_texts_of_figures_are_texts(self):
        self.assertEqual(together(["0", 0, "1", "2"]), ("0", 0, "12"))

    def test_all_lists_of_up_to_five_pieces(self):
        for length in range(6):
            for pieces in itertools.product(["", "a", "bc", 0, 1], repeat=length):
                row = together(list(pieces))
                self.assertEqual(row, as_row(pieces), pieces)
                self.assertIs(type(row), tuple)

    def test_many_pieces(self):
        self.assertEqual(together(["a"] * 1000 + [5] + ["", "b"] * 1000), ("a" * 1000, 5, "b" * 1000))

    def test_the_list_handed_in_stays(self):
        pieces = ["", "a", "b", 0, "", "c", "d"]
        self.assertEqual(together(pieces), ("ab", 0, "cd"))
        self.assertEqual(pieces, ["", "a", "b", 0, "", "c", "d"])
        row = together(pieces)
        pieces.clear()
        self.assertEqual(row, ("ab", 0, "cd"))

    def test_by_the_name_of_its_argument(self):
        self.assertEqual(together(pieces=["a", "b"]), ("ab",))


class Filled(unittest.TestCase):
    def test_no_pieces(self):
        self.assertEqual(filled((), []), "")
        self.assertEqual(filled((), ["a", "b"]), "")

    def test_texts_stay(self):
        self.assertEqual(filled(("ab",), []), "ab")
        self.assertEqual(filled(("ab", "0"), ["x"]), "ab0")

    def test_each_box_has_its_text_in_its_place(self):
        held = ["x", "", "yz0", "w" * 50]
        self.assertEqual(filled((0,), held), "x")
        self.assertEqual(filled((1,), held), "")
        self.assertEqual(filled((2, "0", 0), held), "yz00x")
        self.assertEqual(filled(("a", 3, 1, "b", 2), held), "a" + "w" * 50 + "byz0")

    def test_a_text_of_a_figure_is_no_box(self):
        self.assertEqual(filled(("1", 0, "0"), ["x", "y"]), "1x0")

    def test_what_is_handed_in_stays(self):
        held = ["x", "y"]
        self.assertEqual(filled((1, 0), held), "yx")
        self.assertEqual(filled((1, 0), held), "yx")
        self.assertEqual(held, ["x", "y"])

    def test_by_the_names_of_its_arguments(self):
        self.assertEqual(filled(row=(0, "a"), held=["b"]), "ba")


if __name__ == "__main__":
    unittest.main()
