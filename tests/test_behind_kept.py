import unittest

from helper import (
    copier_rules, drawn_sweepers, echo_fields, gatherer_fields, mirror_fields, reverser_rules, small_gatherers,
    thrice_rules,
)
from twowaypen.behind import behind, chained, echo, made
from twowaypen.gatherers import Gatherer
from twowaypen.walkers import Walker


def in_order(gatherer):
    letters, boxes, begins, rules, ends = gatherer_fields(gatherer)
    return letters, boxes, begins, list(rules.items()), list(ends.items())


class Kept(unittest.TestCase):
    def test_what_is_handed_in_stays(self):
        for fields, (states, rules) in zip(small_gatherers(60), drawn_sweepers("ab01", "ab01", 60)):
            gatherer, walker = Gatherer(*fields), Walker("ab01", states, rules)
            before = in_order(gatherer)
            behind(gatherer, walker, 1000)
            made(walker, 1000)
            self.assertEqual(in_order(gatherer), before)
            self.assertEqual(list(walker.rules.items()), list(rules.items()))
            self.assertEqual((walker.letters, walker.states), ("ab01", states))

    def test_the_list_handed_in_stays(self):
        one, other = Walker("ab", 1, copier_rules("ab")), Walker("ab", 3, reverser_rules("ab"))
        walkers = [one, other, one]
        gatherer = chained(walkers)
        self.assertEqual(len(walkers), 3)
        for walker, first in zip(walkers, (one, other, one)):
            self.assertIs(walker, first)
        told = in_order(gatherer)
        walkers.clear()
        self.assertEqual(in_order(gatherer), told)
        self.assertEqual(gatherer.outcome("aab"), ("told", "baa"))

    def test_what_is_changed_behind_it_changes_nothing(self):
        gatherer, walker = Gatherer(*mirror_fields("ab")), Walker("ab089", 1, copier_rules("ab089"))
        whole, alone = behind(gatherer, walker), made(walker)
        kept = in_order(whole), in_order(alone)
        gatherer.rules.clear()
        gatherer.ends[0] = "round"
        walker.rules.clear()
        self.assertEqual((in_order(whole), in_order(alone)), kept)
        self.assertEqual(whole.outcome("ab"), ("told", "8ab00ba9"))

    def test_each_one_told_is_a_new_one(self):
        walker = Walker("ab", 3, thrice_rules("ab"))
        gatherer = Gatherer(*echo_fields("ab"))
        makes = (
            lambda: echo("ab"), lambda: made(walker), lambda: chained([walker]), lambda: behind(gatherer, walker),
        )
        for make in makes:
            one = make()
            told = in_order(one)
            one.rules.clear()
            one.ends[0] = "round"
            one.begins = ()
            other = make()
            self.assertIsNot(other, one)
            self.assertIsNot(other.rules, one.rules)
            self.assertIsNot(other.ends, one.ends)
            self.assertEqual(in_order(other), told)

    def test_the_same_question_has_the_same_answer(self):
        sweepers = [Walker("ab", *each) for each in drawn_sweepers("ab", "ab", 20)]
        first = [in_order(made(walker, 1000)) for walker in sweepers]
        second = [in_order(made(walker, 1000)) for walker in reversed(sweepers)]
        self.assertEqual(first, second[::-1])

    def test_alike_walkers_whatever_the_order_of_their_rules(self):
        for states, rules in drawn_sweepers("ab", "ab", 30):
            turned = dict(reversed(list(rules.items())))
            one, other = made(Walker("ab", states, rules), 1000), made(Walker("ab", states, turned), 1000)
            self.assertEqual(gatherer_fields(one), gatherer_fields(other))

    def test_fields_are_not_shared_with_the_gatherer_handed_in(self):
        gatherer = Gatherer("x", 0, (), {(0, "x"): (0, ())}, {0: ("a",)})
        whole = behind(gatherer, Walker("a", 1, copier_rules("a")))
        self.assertEqual((whole.rules, whole.ends), (gatherer.rules, gatherer.ends))
        whole.rules.clear()
        whole.ends.clear()
        self.assertEqual((gatherer.rules, gatherer.ends), ({(0, "x"): (0, ())}, {0: ("a",)}))


if __name__ == "__main__":
    unittest.main()
