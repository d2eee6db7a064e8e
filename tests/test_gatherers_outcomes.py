import itertools
import unittest

from helper import drawn_gatherers, drawn_texts, echo_fields, mirror_fields, unfolded
from twowaypen.gatherers import Gatherer


class Outcomes(unittest.TestCase):
    def assert_tells(self, gatherer, text, word, written="", origins=()):
        self.assertEqual(gatherer.outcome(text), (word, written))
        self.assertEqual(gatherer.origins(text), list(origins))


class Told(Outcomes):
    def test_an_echo(self):
        gatherer = Gatherer(*echo_fields("ab9"))
        self.assert_tells(gatherer, "", "told")
        self.assert_tells(gatherer, "a", "told", "a", [1])
        self.assert_tells(gatherer, "b9ab", "told", "b9ab", [1, 2, 3, 4])

    def test_a_mirror_with_begins_and_an_end_that_have_signs(self):
        gatherer = Gatherer(*mirror_fields("ab"))
        self.assert_tells(gatherer, "", "told", "8009", [0, 0, 0, 0])
        self.assert_tells(gatherer, "ab", "told", "8ab00ba9", [0, 1, 2, 0, 0, 2, 1, 0])

    def test_long_texts(self):
        text = "abbac" * 60
        there = list(range(1, 301))
        self.assert_tells(Gatherer(*echo_fields("abc")), text, "told", text, there)
        self.assert_tells(
            Gatherer(*mirror_fields("abc")), text, "told", "8" + text + "00" + text[::-1] + "9",
            [0, *there, 0, 0, *there[::-1], 0],
        )

    def test_two_boxes_change_places(self):
        rules = {(0, "a"): (0, ((1,), (0,))), (0, "b"): (0, ((1, "x"), ("y", 0)))}
        gatherer = Gatherer("ab", 2, ("1", "22"), rules, {0: (0, "0", 1)})
        self.assert_tells(gatherer, "", "told", "1022", [0] * 4)
        self.assert_tells(gatherer, "a", "told", "2201", [0] * 4)
        self.assert_tells(gatherer, "aa", "told", "1022", [0] * 4)
        self.assert_tells(gatherer, "b", "told", "22x0y1", [0, 0, 1, 0, 1, 0])
        self.assert_tells(gatherer, "ba", "told", "y1022x", [1, 0, 0, 0, 0, 1])
        self.assert_tells(gatherer, "bb", "told", "y1x0y22x", [1, 0, 2, 0, 2, 0, 0, 1])

    def test_a_box_is_handed_on_with_what_it_held_ahead_of_the_rule(self):
        for rows in (((0, "x"), (1, "y")), (("x",), (1, 0)), ((1, "x"), (0,)), ((), (1, "z", 0))):
            gatherer = Gatherer("a", 2, ("1", "2"), {(0, "a"): (0, rows)}, {0: (0, "0", 1)})
            held = ["1", "2"]
            for length in range(6):
                self.assertEqual(gatherer.outcome("a" * length), ("told", held[0] + "0" + held[1]))
                before = list(held)
                held = ["".join(p if isinstance(p, str) else before[p] for p in row) for row in rows]

    def test_origins_through_several_boxes(self):
        shift = {(0, "a"): (0, (("x",), (0,), (1,), (3, 2)))}
        gatherer = Gatherer("a", 4, ("7", "8", "9", ""), shift, {0: (3, "0", 2, 1, 0)})
        self.assert_tells(gatherer, "", "told", "0987", [0] * 4)
        self.assert_tells(gatherer, "a", "told", "9087x", [0, 0, 0, 0, 1])
        self.assert_tells(gatherer, "aaa", "told", "9870xxx", [0, 0, 0, 0, 1, 2, 3])
        self.assert_tells(gatherer, "aaaaa", "told", "987xx0xxx", [0, 0, 0, 1, 2, 0, 3, 4, 5])

    def test_no_boxes(self):
        rules = {(0, "a"): (1, ()), (1, "a"): (0, ())}
        gatherer = Gatherer("a", 0, (), rules, {0: ("even",), 1: ()})
        self.assert_tells(gatherer, "", "told", "even", [0] * 4)
        self.assert_tells(gatherer, "a", "told")
        self.assert_tells(gatherer, "aa", "told", "even", [0] * 4)
        self.assert_tells(gatherer, "a" * 300, "told", "even", [0] * 4)

    def test_eight_boxes(self):
        rows = tuple(((box + 1) % 8, str(box)) for box in range(8))
        gatherer = Gatherer("a", 8, tuple("stuvwxyz"), {(0, "a"): (0, rows)}, {0: tuple(range(8))})
        self.assert_tells(gatherer, "", "told", "stuvwxyz", [0] * 8)
        self.assert_tells(gatherer, "a", "told", "t0u1v2w3x4y5z6s7", [0, 1] * 8)
        self.assert_tells(gatherer, "aa", "told", "u10v21w32x43y54z65s76t07", [0, 1, 2] * 8)

    def test_more_boxes_and_longer_pieces_than_are_handed_in_at_first(self):
        rows = tuple((box, "ab" * 40) for box in range(30))
        gatherer = Gatherer("a", 30, ("x" * 50,) * 30, {(0, "a"): (0, rows)}, {0: tuple(range(30))})
        self.assert_tells(
            gatherer, "aa", "told", ("x" * 50 + "ab" * 80) * 30, ([0] * 50 + [1] * 80 + [2] * 80) * 30,
        )

    def test_a_row_without_pieces_empties_its_box(self):
        rules = {(0, "a"): (0, ((0, "a"), (1, "a"))), (0, "b"): (0, ((), (1,)))}
        gatherer = Gatherer("ab", 2, ("1", "2"), rules, {0: (0, 1)})
        self.assert_tells(gatherer, "aab", "told", "2aa", [0, 1, 2])
        self.assert_tells(gatherer, "aaba", "told", "a2aaa", [4, 0, 1, 2, 4])

    def test_told_without_signs(self):
        for end in ((), (0,), (1, 0)):
            rules = {(0, "a"): (0, ((), (1, 0)))}
            gatherer = Gatherer("a", 2, ("", ""), rules, {0: end})
            for length in (0, 1, 2, 300):
                self.assert_tells(gatherer, "a" * length, "told")

    def test_several_texts_side_by_side(self):
        rules = {(0, "a"): (0, (("x", "yz", 0, "0", "1"),))}
        gatherer = Gatherer("a", 1, ("",), rules, {0: ("5", "6", 0)})
        self.assert_tells(gatherer, "aa", "told", "56xyzxyz0101", [0, 0, 2, 2, 2, 1, 1, 1, 1, 1, 2, 2])

    def test_the_first_state_is_nought_whatever_the_order(self):
        ends = {7: ("7",), 0: ("0",), 9999: ("9",)}
        rules = {(9999, "a"): (7, ()), (7, "a"): (7, ()), (0, "a"): (9999, ())}
        gatherer = Gatherer("a", 0, (), rules, ends)
        for length, written in enumerate("0977"):
            self.assertEqual(gatherer.outcome("a" * length), ("told", written))

    def test_the_end_is_that_of_the_last_state_alone(self):
        rules = {(0, "a"): (1, ()), (1, "a"): (2, ()), (2, "a"): (3, ())}
        gatherer = Gatherer("a", 0, (), rules, {0: "round", 1: ("x",), 2: "stuck", 3: ("y",)})
        outcomes = [gatherer.outcome("a" * length) for length in range(5)]
        self.assertEqual(
            outcomes, [("round", ""), ("told", "x"), ("stuck", ""), ("told", "y"), ("stuck", "")],
        )


class NotTold(Outcomes):
    def test_no_rules_and_no_ends_at_all(self):
        for boxes, begins in ((0, ()), (1, ("x",)), (8, ("",) * 8)):
            gatherer = Gatherer("ab", boxes, begins, {}, {})
            for text in ("", "a", "ab" * 150):
                self.assert_tells(gatherer, text, "stuck")

    def test_no_rules_but_an_end(self):
        gatherer = Gatherer("ab", 1, ("x",), {}, {0: (0, "y")})
        self.assert_tells(gatherer, "", "told", "xy", [0, 0])
        for text in ("a", "b", "ab"):
            self.assert_tells(gatherer, text, "stuck")

    def test_no_ends(self):
        letters, boxes, begins, rules, _ = echo_fields("ab")
        for text in ("", "a", "ab" * 150):
            self.assert_tells(Gatherer(letters, boxes, begins, rules, {}), text, "stuck")
            self.assert_tells(Gatherer(letters, boxes, begins, rules, {1: (0,)}), text, "stuck")

    def test_a_rule_is_missing(self):
        letters, boxes, begins, rules, ends = echo_fields("ab")
        del rules[(0, "b")]
        gatherer = Gatherer(letters, boxes, begins, rules, ends)
        self.assert_tells(gatherer, "aa", "told", "aa", [1, 2])
        for text in ("b", "ab", "ba", "a" * 299 + "b"):
            self.assert_tells(gatherer, text, "stuck")

    def test_a_rule_is_missing_in_the_state_alone(self):
        rules = {(0, "a"): (1, ()), (0, "b"): (0, ()), (1, "b"): (0, ())}
        gatherer = Gatherer("ab", 0, (), rules, {0: (), 1: ()})
        for text, word in (("abab", "told"), ("bba", "told"), ("aa", "stuck"), ("babaa", "stuck")):
            self.assert_tells(gatherer, text, word)

    def test_a_sign_that_is_no_letter(self):
        gatherer = Gatherer(*mirror_fields("ab"))
        for text in ("c", "abc", "cab", "a9b", "A", "ab" * 149 + "z"):
            self.assert_tells(gatherer, text, "stuck")

    def test_stuck_on_the_way_whatever_the_ends_are(self):
        rules = {(0, "a"): (0, ())}
        gatherer = Gatherer("ab", 0, (), rules, {0: "round"})
        self.assert_tells(gatherer, "aa", "round")
        self.assert_tells(gatherer, "aab", "stuck")
        self.assert_tells(gatherer, "aba", "stuck")

    def test_an_end_that_is_a_word(self):
        for word in ("stuck", "round"):
            letters, boxes, begins, rules, _ = mirror_fields("ab")
            gatherer = Gatherer(letters, boxes, begins, rules, {0: word})
            for text in ("", "a", "ab" * 150):
                self.assert_tells(gatherer, text, word)
                self.assertEqual(gatherer.walk(text), (word, []))


class AgainstUnfolding(unittest.TestCase):
    """The program beside the helper's way from behind."""

    def compare(self, fields, texts):
        gatherer = Gatherer(*fields)
        words = []
        for text in texts:
            word, written, origins = unfolded(*fields[2:], text)
            self.assertEqual(gatherer.outcome(text), (word, written), (fields, text))
            self.assertEqual(gatherer.origins(text), origins, (fields, text))
            words.append(word)
        return words

    def test_every_way_to_put_two_boxes_into_two_rows(self):
        pieces = [(0,), (1,), ("x",), (0, 1), (1, "x", 0), (), ("y", 1)]
        for one, other in itertools.product(pieces, pieces):
            boxes = [piece for piece in one + other if isinstance(piece, int)]
            if len(set(boxes)) == len(boxes):
                rules = {(0, "a"): (0, (one, other)), (0, "b"): (0, ((0, "p"), (1, "q")))}
                fields = ("ab", 2, ("5", "67"), rules, {0: (1, "z", 0)})
                self.compare(fields, ["".join(text) for text in itertools.product("ab", repeat=4)])

    def test_drawn_gatherers(self):
        words = []
        for fields in drawn_gatherers(400):
            words += self.compare(fields, drawn_texts(fields[0], [0, 1, 2, 3, 5, 9, 40, 300]))
        for word in ("told", "stuck", "round"):
            self.assertGreater(words.count(word), 100, word)


if __name__ == "__main__":
    unittest.main()
