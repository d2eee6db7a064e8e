import unittest

from helper import (
    copier_rules, drawn_gatherers, drawn_sweepers, drawn_ways_back, echo_fields, gatherer_fields, mirror_fields,
    small_gatherers,
)
from twowaypen.back import goes_back, walker_of
from twowaypen.behind import behind, made
from twowaypen.errors import NoWayBack, PenError
from twowaypen.gatherers import Gatherer
from twowaypen.walkers import Walker


def without_boxes(letters, leads, ends=None):
    """A gatherer without boxes, by a dict from (state, letter) to the next state."""
    return Gatherer(letters, 0, (), {key: (state, ()) for key, state in leads.items()}, ends or {0: ()})


def meeting(letters, rules):
    """The first letter, and the least state to which it leads from two states or more; None where there is none."""
    for letter in letters:
        for state in sorted({rule[0] for rule in rules.values()}):
            if len([key for key, rule in rules.items() if key[1] == letter and rule[0] == state]) > 1:
                return letter, state
    return None


class Refused(unittest.TestCase):
    def assert_goes_back(self, gatherer):
        self.assertIs(goes_back(gatherer), True)
        self.assertIsInstance(walker_of(gatherer), Walker)

    def assert_no_way_back(self, gatherer, letter, state):
        self.assertIs(goes_back(gatherer), False)
        with self.assertRaises(NoWayBack) as caught:
            walker_of(gatherer)
        self.assertEqual((caught.exception.letter, caught.exception.state), (letter, state))
        self.assertIs(type(caught.exception.state), int)
        self.assertIsInstance(caught.exception, PenError)

    def test_some_that_can(self):
        self.assert_goes_back(Gatherer(*echo_fields("ab")))
        self.assert_goes_back(Gatherer(*mirror_fields("ab")))
        self.assert_goes_back(without_boxes("ab", {(0, "a"): 1, (1, "a"): 0, (0, "b"): 0, (1, "b"): 1}))

    def test_no_rules_at_all(self):
        self.assert_goes_back(Gatherer("ab", 0, (), {}, {}))
        self.assert_goes_back(Gatherer("ab", 2, ("x", ""), {}, {0: (1, 0), 7: "round"}))

    def test_two_states_that_lead_to_one(self):
        self.assert_no_way_back(without_boxes("a", {(0, "a"): 1, (1, "a"): 1}), "a", 1)
        self.assert_no_way_back(without_boxes("a", {(0, "a"): 0, (1, "a"): 0}), "a", 0)
        self.assert_no_way_back(without_boxes("a", {(0, "a"): 5, (1, "a"): 5}), "a", 5)

    def test_unlike_letters_may_lead_to_one(self):
        self.assert_goes_back(without_boxes("ab", {(0, "a"): 1, (1, "b"): 1}))
        self.assert_goes_back(without_boxes("ab", {(0, "a"): 1, (0, "b"): 1}))

    def test_a_letter_that_leads_two_states_to_unlike_ones(self):
        self.assert_goes_back(without_boxes("a", {(0, "a"): 1, (1, "a"): 2, (2, "a"): 0}))
        self.assert_goes_back(without_boxes("a", {(0, "a"): 1, (1, "a"): 0}))
        self.assert_goes_back(without_boxes("a", {(0, "a"): 3, (7, "a"): 8}))

    def test_the_first_letter_in_their_order(self):
        leads = {(0, "a"): 1, (1, "a"): 1, (0, "b"): 2, (1, "b"): 2}
        self.assert_no_way_back(without_boxes("ab", leads), "a", 1)
        self.assert_no_way_back(without_boxes("ba", leads), "b", 2)
        self.assert_no_way_back(without_boxes("cbda", leads), "b", 2)
        figures = {(0, "0"): 1, (1, "0"): 1, (0, "z"): 2, (1, "z"): 2}
        self.assert_no_way_back(without_boxes("z0", figures), "z", 2)
        self.assert_no_way_back(without_boxes("0z", figures), "0", 1)

    def test_a_first_letter_that_has_none(self):
        leads = {(0, "b"): 1, (1, "b"): 0, (0, "a"): 4, (1, "a"): 4}
        self.assert_no_way_back(without_boxes("ba", leads), "a", 4)

    def test_the_least_state_of_the_letter(self):
        leads = {(0, "a"): 9, (1, "a"): 9, (2, "a"): 3, (3, "a"): 3, (4, "a"): 5, (5, "a"): 5}
        self.assert_no_way_back(without_boxes("a", leads), "a", 3)
        self.assert_no_way_back(without_boxes("a", dict(reversed(list(leads.items())))), "a", 3)
        self.assert_no_way_back(without_boxes("a", {**leads, (6, "a"): 1, (7, "a"): 0}), "a", 3)

    def test_the_least_state_is_that_of_the_first_letter(self):
        leads = {(0, "a"): 1, (1, "a"): 1, (0, "b"): 7, (1, "b"): 7, (2, "b"): 6, (3, "b"): 6}
        self.assert_no_way_back(without_boxes("ba", leads), "b", 6)

    def test_the_least_as_a_number(self):
        leads = {(0, "a"): 10, (1, "a"): 10, (2, "a"): 9, (3, "a"): 9}
        self.assert_no_way_back(without_boxes("a", leads), "a", 9)

    def test_states_of_any_numbers(self):
        self.assert_goes_back(without_boxes("a", {(0, "a"): 9999, (9999, "a"): 42, (42, "a"): 0}))
        self.assert_no_way_back(without_boxes("a", {(0, "a"): 9999, (42, "a"): 9999}), "a", 9999)
        self.assert_no_way_back(without_boxes("a", {(0, "a"): 123456, (1, "a"): 123456}), "a", 123456)

    def test_states_that_are_never_come_to(self):
        self.assert_no_way_back(without_boxes("a", {(5, "a"): 6, (7, "a"): 6}), "a", 6)
        self.assert_no_way_back(without_boxes("ab", {(0, "a"): 0, (5, "a"): 0}), "a", 0)

    def test_three_that_lead_to_one(self):
        self.assert_no_way_back(without_boxes("a", {(0, "a"): 2, (1, "a"): 2, (2, "a"): 2}), "a", 2)

    def test_rows_and_ends_are_no_matter(self):
        rows = {(0, "a"): (1, (("x", 0),)), (1, "a"): (1, ((),))}
        self.assert_no_way_back(Gatherer("a", 1, ("",), rows, {}), "a", 1)
        self.assert_no_way_back(Gatherer("a", 1, ("",), rows, {0: "round", 1: (0,)}), "a", 1)

    def test_drawn_gatherers(self):
        counts = [0, 0]
        for fields in [*drawn_gatherers(300), *small_gatherers(300), *drawn_ways_back(100)]:
            expected = meeting(fields[0], fields[3])
            counts[expected is None] += 1
            if expected is None:
                self.assert_goes_back(Gatherer(*fields))
            else:
                self.assert_no_way_back(Gatherer(*fields), *expected)
        self.assertGreater(min(counts), 100)

    def test_gatherers_that_were_made(self):
        self.assert_no_way_back(made(Walker("ba", 1, copier_rules("ba"))), "b", 2)
        for states, rules in drawn_sweepers("ab", "ab", 40):
            gatherer = made(Walker("ab", states, rules), 1000)
            self.assert_no_way_back(gatherer, *meeting("ab", gatherer.rules))
        line = Gatherer("x", 1, ("",), {(0, "x"): (1, ((0, "a"),)), (1, "x"): (2, ((0, "b"),))}, {2: (0,)})
        self.assert_goes_back(behind(line, Walker("ab", 1, copier_rules("ab"))))

    def test_nothing_is_changed(self):
        for fields in drawn_gatherers(60):
            gatherer = Gatherer(*fields)
            expected = meeting(fields[0], fields[3])
            for _ in range(2):
                self.assertIs(goes_back(gatherer), expected is None)
                if expected is not None:
                    self.assert_no_way_back(gatherer, *expected)
            self.assertEqual(gatherer_fields(gatherer), fields)
            self.assertEqual(list(gatherer.rules), list(fields[3]))

    def test_by_the_names_of_the_arguments(self):
        self.assertIs(goes_back(gatherer=Gatherer(*echo_fields("a"))), True)
        self.assertEqual(walker_of(gatherer=Gatherer(*echo_fields("a"))).outcome("aa"), ("told", "aa"))


if __name__ == "__main__":
    unittest.main()
