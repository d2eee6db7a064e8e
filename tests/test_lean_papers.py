import unittest

from helper import (
    comes_through, drawn_gatherers, drawn_sweepers, drawn_walkers, drawn_ways_back, echo_fields, gatherer_fields,
    mirror_fields, reverser_rules, serving_boxes, small_gatherers, states_in, thrice_rules,
)
from twowaypen.behind import behind, chained, made
from twowaypen.errors import TooMany
from twowaypen.gatherers import Gatherer
from twowaypen.lean import papers
from twowaypen.walkers import Walker


def through_the_boxes(states, boxes):
    """The states go round by a; from the last one on box 0 is filled, and each box goes over into the next one.

    What is told is the last box, in the last state.
    """
    staying = tuple((box,) for box in range(boxes))
    going = (("x",), *((box,) for box in range(boxes - 1)))
    rules = {(state, "a"): (state + 1, staying) for state in range(states - 1)}
    rules[(states - 1, "a")] = 0, going
    return "a", boxes, ("",) * boxes, rules, {states - 1: (boxes - 1,)}


class Papers(unittest.TestCase):
    def assert_papers(self, fields, boxes):
        told = papers(Gatherer(*fields))
        self.assertIs(type(told), dict)
        self.assertEqual(list(told), list(boxes), fields)
        bound = len(states_in(fields[3])) * (fields[1] + 1)
        for box, pair in told.items():
            self.assertIs(type(box), int)
            self.assertIs(type(pair), tuple)
            ahead, following = pair
            self.assertTrue(set(ahead + following) <= set(fields[0]), pair)
            self.assertLessEqual(max(len(ahead), len(following)), bound)
            self.assertTrue(comes_through(fields, box, ahead, following), (fields, box, pair))
        return told

    def test_by_hand(self):
        self.assert_papers(echo_fields("ab"), [0])
        self.assert_papers(mirror_fields("ab"), [0, 1])
        told = self.assert_papers(("ab", 1, ("",), {(0, "b"): (1, (("x",),)), (1, "a"): (2, ((0,),))}, {2: (0,)}), [0])
        self.assertIn(told, ({0: ("b", "a")}, {0: ("ba", "")}))

    def test_no_boxes(self):
        self.assert_papers(("ab", 0, (), {}, {}), [])
        self.assert_papers(("ab", 0, (), {(0, "a"): (0, ())}, {0: ("x",)}), [])

    def test_no_rules_or_no_ends(self):
        self.assert_papers(("a", 2, ("x", ""), {}, {}), [])
        self.assert_papers(("a", 2, ("x", ""), {}, {0: (0, 1)}), [0])
        self.assert_papers(("a", 2, ("x", ""), {(0, "a"): (0, ((0,), ("y", 1)))}, {}), [])
        self.assert_papers(("a", 1, ("x",), {}, {5: (0,)}), [])

    def test_a_box_that_holds_signs_but_never_comes_into_what_is_told(self):
        rules = {(0, "a"): (0, ((0, "x"), (1, "y")))}
        self.assert_papers(("a", 2, ("", ""), rules, {0: (1,)}), [1])
        self.assert_papers(("a", 2, ("u", "v"), rules, {0: ("w",)}), [])
        dropped = {(0, "a"): (1, (("x",), ("y",))), (1, "a"): (2, ((), (1,)))}
        self.assert_papers(("a", 2, ("", ""), dropped, {2: (0, 1)}), [1])

    def test_a_box_that_comes_into_what_is_told_but_never_holds_a_sign(self):
        rules = {(0, "a"): (0, ((0,), (1, "y")))}
        self.assert_papers(("a", 2, ("", ""), rules, {0: (0, 1)}), [1])
        self.assert_papers(("a", 2, ("", "x"), {(0, "a"): (0, ((1,), ()))}, {0: (0,)}), [0, 1])
        self.assert_papers(("a", 3, ("", "", "x"), {(0, "a"): (0, ((1,), (0,), (2,)))}, {0: (0, 1, 2)}), [2])

    def test_one_that_serves_by_its_begin_alone(self):
        rules = {(0, "a"): (1, ((), ())), (1, "a"): (1, ((0,), (1,)))}
        told = self.assert_papers(("a", 2, ("x", "y"), rules, {0: (1,)}), [1])
        self.assertEqual(told, {1: ("", "")})
        rules = {(0, "b"): (1, ((0,),)), (1, "a"): (2, ((),))}
        told = self.assert_papers(("ab", 1, ("x",), rules, {1: (0,), 2: (0,)}), [0])
        self.assertIn(told, ({0: ("", "b")}, {0: ("b", "")}))
        rules = {(0, "b"): (1, ((), (0,))), (1, "a"): (2, ((), (1,)))}
        told = self.assert_papers(("ab", 2, ("x", ""), rules, {2: (1,)}), [0, 1])
        self.assertEqual(told[0], ("", "ba"))
        self.assertIn(told[1], (("b", "a"), ("ba", "")))

    def test_one_that_serves_by_an_end_alone(self):
        rules = {(0, "a"): (1, (("x",), ())), (1, "b"): (2, ((), (0,)))}
        self.assertEqual(self.assert_papers(("ab", 2, ("", ""), rules, {1: (0,)}), [0]), {0: ("a", "")})
        told = self.assert_papers(("ab", 2, ("", ""), rules, {2: (1,)}), [0, 1])
        self.assertEqual(told, {0: ("a", "b"), 1: ("ab", "")})

    def test_a_sign_only_in_a_state_without_a_way_to_an_end(self):
        rules = {(0, "a"): (1, (("x",),)), (0, "b"): (0, ((0,),))}
        self.assert_papers(("ab", 1, ("",), rules, {0: (0,)}), [])
        self.assert_papers(("ab", 1, ("",), rules, {0: (0,), 1: "stuck"}), [])
        self.assert_papers(("ab", 1, ("",), rules, {0: (0,), 1: "round"}), [])
        self.assert_papers(("ab", 1, ("",), rules, {0: (0,), 1: ()}), [])
        self.assert_papers(("ab", 1, ("",), rules, {0: (0,), 1: ("x",)}), [])
        self.assert_papers(("ab", 1, ("",), rules, {0: (0,), 1: (0,)}), [0])

    def test_a_sign_here_and_told_there_is_not_enough(self):
        rules = {(0, "a"): (1, (("x", 0),)), (1, "a"): (2, ((),)), (2, "a"): (3, ((0,),))}
        self.assert_papers(("a", 1, ("",), rules, {0: (0,), 2: (0,), 3: (0,)}), [])
        self.assert_papers(("a", 1, ("",), rules, {0: (0,), 1: (0,)}), [0])

    def test_states_that_are_never_come_to(self):
        rules = {(0, "a"): (0, ((), (1,))), (5, "a"): (6, (("x",), (0,))), (6, "a"): (0, ((0,), (1,)))}
        self.assert_papers(("a", 2, ("", ""), rules, {0: (0, 1), 5: (0, 1), 6: (0, 1)}), [])
        self.assert_papers(("a", 2, ("x", ""), rules, {0: (1,), 6: (0, 1)}), [])

    def test_only_behind_long_texts(self):
        for states, boxes in ((1, 1), (1, 8), (3, 2), (7, 4), (30, 8), (400, 3)):
            fields = through_the_boxes(states, boxes)
            told = self.assert_papers(fields, range(boxes))
            for box, (ahead, following) in told.items():
                self.assertGreaterEqual(len(ahead), states * (box + 1))
                self.assertEqual(len(ahead + following) % states, states - 1)
                self.assertGreaterEqual(len(ahead + following), states * (boxes + 1) - 1)

    def test_a_long_way_for_each_of_many_states(self):
        rules = {(state, "a"): (state + 1, ((0,),)) for state in range(9999)}
        rules[(8000, "a")] = 8001, (("x",),)
        told = self.assert_papers(("a", 1, ("",), rules, {9999: (0,)}), [0])
        self.assertEqual(len("".join(told[0])), 9999)
        self.assertGreater(len(told[0][0]), 8000)

    def test_rising(self):
        rules = {(0, "a"): (1, ((), (), ("x",))), (1, "a"): (2, ((), (2,), ())), (2, "a"): (3, ((1,), (), ()))}
        self.assert_papers(("a", 3, ("", "", ""), rules, {3: (0,)}), [0, 1, 2])

    def test_drawn_gatherers(self):
        counts = {}
        for fields in [*drawn_gatherers(500), *small_gatherers(800), *drawn_ways_back(300)]:
            boxes = serving_boxes(fields)
            self.assert_papers(fields, boxes)
            counts[len(boxes) < fields[1]] = counts.get(len(boxes) < fields[1], 0) + 1
        self.assertGreater(min(counts[True], counts[False]), 200)

    def test_gatherers_that_were_made(self):
        self.assert_papers(gatherer_fields(made(Walker("ab", 3, reverser_rules("ab")))), [1, 2, 5])
        least = 0
        for letters, states, rules in drawn_walkers(80):
            try:
                fields = gatherer_fields(made(Walker(letters, states, rules)))
            except TooMany:
                continue
            boxes = serving_boxes(fields)
            self.assert_papers(fields, boxes)
            least += 0 < len(boxes) < fields[1]
        self.assertGreater(least, 10)

    def test_more_that_were_made(self):
        reverser, thrice = Walker("ab01234", 3, reverser_rules("ab01234")), Walker("ab", 3, thrice_rules("ab"))
        for walkers in ([thrice, reverser], [thrice, reverser, reverser]):
            fields = gatherer_fields(chained(walkers))
            self.assert_papers(fields, serving_boxes(fields))
        for fields, (states, rules) in zip(small_gatherers(60), drawn_sweepers("ab01", "ab01", 60)):
            fields = gatherer_fields(behind(Gatherer(*fields), Walker("ab01", states, rules), 1000))
            self.assert_papers(fields, serving_boxes(fields))

    def test_what_is_handed_in_stays_and_what_is_told_is_new(self):
        for fields in small_gatherers(60):
            gatherer = Gatherer(*fields)
            one, other = papers(gatherer), papers(gatherer)
            self.assertEqual(list(one.items()), list(other.items()))
            self.assertIsNot(one, other)
            one[99] = ("", "")
            self.assertEqual(papers(gatherer), other)
            self.assertEqual(gatherer_fields(gatherer), fields)
            self.assertEqual(list(gatherer.rules), list(fields[3]))
            self.assertEqual(list(gatherer.ends), list(fields[4]))

    def test_by_the_name_of_the_argument(self):
        self.assertEqual(list(papers(gatherer=Gatherer(*echo_fields("a")))), [0])


if __name__ == "__main__":
    unittest.main()
