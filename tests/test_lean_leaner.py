import unittest

from helper import (
    all_texts, drawn_gatherers, drawn_sweepers, drawn_texts, drawn_walkers, drawn_ways_back, echo_fields,
    gatherer_fields, mirror_fields, reverser_rules, serving_boxes, small_gatherers, thrice_rules, unfolded,
)
from twowaypen.behind import behind, chained, made
from twowaypen.errors import TooMany
from twowaypen.gatherers import Gatherer
from twowaypen.lean import leaner, papers
from twowaypen.walkers import Walker


def row_without(row, boxes):
    """The row with these boxes alone, each with its place among them as its number."""
    return tuple(piece if isinstance(piece, str) else boxes.index(piece) for piece in row
                 if isinstance(piece, str) or piece in boxes)


def lean_fields(fields):
    letters, _, begins, rules, ends = fields
    boxes = serving_boxes(fields)
    lean_rules = {key: (state, tuple(row_without(rows[box], boxes) for box in boxes))
                  for key, (state, rows) in rules.items()}
    lean_ends = {state: end if isinstance(end, str) else row_without(end, boxes) for state, end in ends.items()}
    return letters, len(boxes), tuple(begins[box] for box in boxes), lean_rules, lean_ends


class Leaner(unittest.TestCase):
    def assert_lean(self, fields, texts=()):
        """The leaner one, held wholly against the point, and against the outcomes of the one handed in."""
        gatherer = Gatherer(*fields)
        lean = leaner(gatherer)
        self.assertIsInstance(lean, Gatherer)
        self.assertIsNot(lean, gatherer)
        self.assertEqual(gatherer_fields(lean), lean_fields(fields))
        self.assertIs(type(lean.begins), tuple)
        self.assertEqual(list(lean.rules), list(fields[3]))
        self.assertEqual(list(lean.ends), list(fields[4]))
        self.assertEqual(list(papers(lean)), list(range(lean.boxes)))
        for text in texts:
            word, written, origins = unfolded(*fields[2:], text)
            self.assertEqual(lean.outcome(text), (word, written))
            self.assertEqual(lean.origins(text), origins)
        return lean

    def test_by_hand(self):
        rules = {
            (0, "a"): (1, (("x", 1), (), (2, "y"), ("z",))),
            (1, "a"): (0, ((0,), ("p", 3, "q", 1, "r"), ("s", 2), ())),
            (5, "b"): (9, ((3, 2, 1, 0), (), ("s", "t"), ())),
        }
        ends = {1: ("u", 2, "v", 3, "w"), 5: (3, 0, 2), 0: "round", 9: "stuck"}
        lean = self.assert_lean(("ab", 4, ("0", "1", "2", "3"), rules, ends), all_texts("ab", 6))
        self.assertEqual(gatherer_fields(lean), (
            "ab", 2, ("2", "3"),
            {(0, "a"): (1, ((0, "y"), ("z",))), (1, "a"): (0, (("s", 0), ())), (5, "b"): (9, (("s", "t"), ()))},
            {1: ("u", 0, "v", 1, "w"), 5: (1, 0), 0: "round", 9: "stuck"},
        ))

    def test_texts_side_by_side_stay_two(self):
        rules = {(0, "a"): (0, ((), ("x", 0, "y", 1, "z")))}
        lean = self.assert_lean(("a", 2, ("", ""), rules, {0: ("b", 0, "c", 1)}), all_texts("a", 5))
        self.assertEqual(lean.rules, {(0, "a"): (0, (("x", "y", 0, "z"),))})
        self.assertEqual(lean.ends, {0: ("b", "c", 0)})
        alone = self.assert_lean(("a", 1, ("",), {(0, "a"): (0, ((0,),))}, {0: ("b", 0, "c")}), all_texts("a", 5))
        self.assertEqual(alone.ends, {0: ("b", "c")})

    def test_nothing_to_leave_out(self):
        for fields in (echo_fields("ab"), mirror_fields("ba"), ("a", 0, (), {}, {}), ("a", 1, ("x",), {}, {0: (0,)})):
            self.assertEqual(gatherer_fields(self.assert_lean(fields, all_texts("ab", 4))), fields)

    def test_nothing_left(self):
        rules = {(0, "a"): (1, ((0, "x"), (1,))), (1, "a"): (0, ((1,), ("y",)))}
        lean = self.assert_lean(("a", 2, ("b", ""), rules, {0: ("c",), 1: "round", 7: (1, "d")}), all_texts("a", 5))
        self.assertEqual(gatherer_fields(lean), (
            "a", 0, (), {(0, "a"): (1, ()), (1, "a"): (0, ())}, {0: ("c",), 1: "round", 7: ("d",)},
        ))
        self.assertEqual(gatherer_fields(leaner(Gatherer("a", 3, ("x", "", "y"), {}, {}))), ("a", 0, (), {}, {}))

    def test_the_first_one_left_out_or_the_last_one(self):
        for out in range(3):
            rules = {(0, "a"): (0, tuple((box, str(box)) for box in range(3)))}
            end = tuple(box for box in range(3) if box != out)
            lean = self.assert_lean(("a", 3, ("x", "y", "z"), rules, {0: end}), all_texts("a", 5))
            self.assertEqual(lean.rules, {(0, "a"): (0, tuple((at, str(box)) for at, box in enumerate(end)))})
            self.assertEqual(lean.ends, {0: (0, 1)})

    def test_drawn_gatherers(self):
        for fields in [*drawn_gatherers(300), *small_gatherers(500), *drawn_ways_back(200)]:
            self.assert_lean(fields, drawn_texts(fields[0], [0, 1, 2, 3, 4, 5, 30]))

    def test_all_short_texts(self):
        for fields in small_gatherers(150):
            self.assert_lean(fields, all_texts(fields[0], 4))

    def test_gatherers_that_were_made(self):
        lean = self.assert_lean(gatherer_fields(made(Walker("ab", 3, reverser_rules("ab")))), all_texts("ab", 5))
        self.assertEqual(lean.boxes, 3)
        self.assertEqual(lean.rules[(2, "a")], (2, ((), (1,), ("a", 2))))
        self.assertEqual(lean.ends, {0: (), 1: (0, 1), 2: (0, 2, 1)})
        for letters, states, rules in drawn_walkers(60):
            try:
                gatherer = made(Walker(letters, states, rules))
            except TooMany:
                continue
            self.assert_lean(gatherer_fields(gatherer), drawn_texts(letters, [0, 1, 2, 3, 30]))

    def test_more_that_were_made(self):
        reverser, thrice = Walker("ab01234", 3, reverser_rules("ab01234")), Walker("ab", 3, thrice_rules("ab"))
        self.assert_lean(gatherer_fields(chained([thrice, reverser])), [*all_texts("ab", 4), "ab" * 150])
        for fields, (states, rules) in zip(small_gatherers(60), drawn_sweepers("ab01", "ab01", 60)):
            made_of_both = behind(Gatherer(*fields), Walker("ab01", states, rules), 1000)
            self.assert_lean(gatherer_fields(made_of_both), drawn_texts(fields[0], [0, 1, 2, 3, 30]))

    def test_a_lean_one_stays_as_it_is(self):
        for fields in small_gatherers(80):
            lean = leaner(Gatherer(*fields))
            self.assertEqual(gatherer_fields(leaner(lean)), gatherer_fields(lean))

    def test_what_is_handed_in_stays(self):
        for fields in small_gatherers(60):
            gatherer = Gatherer(*fields)
            leaner(gatherer)
            self.assertEqual(gatherer_fields(gatherer), fields)
            self.assertEqual(list(gatherer.rules), list(fields[3]))
            self.assertEqual(list(gatherer.ends), list(fields[4]))

    def test_each_one_told_is_a_new_one(self):
        for fields in (echo_fields("ab"), ("a", 0, (), {(0, "a"): (0, ())}, {0: ("x",)})):
            gatherer = Gatherer(*fields)
            one, other = leaner(gatherer), leaner(gatherer)
            kept = gatherer_fields(other)
            kept = (*kept[:3], dict(kept[3]), dict(kept[4]))
            one.rules.clear()
            one.ends.clear()
            self.assertEqual(gatherer_fields(gatherer), fields)
            gatherer.rules.clear()
            gatherer.ends.clear()
            self.assertEqual(gatherer_fields(other), kept)
            self.assertEqual(gatherer_fields(leaner(Gatherer(*fields))), kept)

    def test_by_the_name_of_the_argument(self):
        self.assertEqual(leaner(gatherer=Gatherer(*echo_fields("a"))).boxes, 1)


if __name__ == "__main__":
    unittest.main()
