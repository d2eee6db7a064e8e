import unittest

from helper import copier_rules, drawn_sweepers, echo_fields, made_along, reverser_rules, small_gatherers, thrice_rules
from twowaypen.behind import behind, chained, made
from twowaypen.errors import TooMany
from twowaypen.gatherers import Gatherer
from twowaypen.reader import read
from twowaypen.walkers import Walker

# Walkers of which just so many states come up.
OF_100 = """walker abc 3
0 a right 0
0 b right 0
0 c left 2
1 < right 0
1 a left 0
1 b right 2
1 c right 2
1 > left 0
2 < right 2
2 a left 0
2 b left 2
2 > left 2"""
OF_101 = """walker ab 3
0 < right 2
0 a left 2
0 b right 2
0 > left 0
1 < right 1
1 a right 2
1 b right 0
2 < right 1
2 a right 1
2 b right 1
2 > right 0"""


def in_line(count):
    """A gatherer without boxes that goes from state to state, so many of them, and then stays."""
    rules = {(state, "x"): (min(state + 1, count - 1), ()) for state in range(count)}
    return Gatherer("x", 0, (), rules, {count - 1: ("a",)})


def states_of(gatherer):
    states = {0} | {key[0] for key in gatherer.rules} | {rule[0] for rule in gatherer.rules.values()}
    return len(states | set(gatherer.ends))


class Refused(unittest.TestCase):
    def assert_too_many(self, most, make, *arguments):
        with self.assertRaises(TooMany) as caught:
            make(*arguments)
        self.assertEqual(caught.exception.most, most)
        self.assertIs(type(caught.exception.most), int)

    def test_by_hand(self):
        copier = Walker("ab", 1, copier_rules("ab"))
        self.assertEqual(states_of(made(copier, 3)), 3)
        for most in (0, 1, 2):
            self.assert_too_many(most, made, copier, most)
            self.assert_too_many(most, chained, [copier], most)
            self.assert_too_many(most, behind, Gatherer(*echo_fields("ab")), copier, most)

    def test_the_begin_is_one(self):
        gatherer, walker = Gatherer("x", 0, (), {}, {}), Walker("a", 1, {})
        self.assertEqual(behind(gatherer, walker, 1).rules, {})
        self.assert_too_many(0, behind, gatherer, walker, 0)

    def test_a_hundred_where_nothing_is_said(self):
        walker = Walker("ab", 1, copier_rules("ab"))
        self.assertEqual(behind(in_line(100), walker).outcome("x" * 99), ("told", "a"))
        self.assert_too_many(100, behind, in_line(101), walker)
        self.assertEqual(behind(in_line(101), walker, 101).outcome("x" * 100), ("told", "a"))
        self.assertEqual(states_of(made(read(OF_100))), 100)
        self.assert_too_many(100, made, read(OF_101))
        self.assertEqual(states_of(made(read(OF_101), 101)), 101)
        self.assertEqual(states_of(chained([read(OF_100)])), 100)
        self.assert_too_many(100, chained, [read(OF_101)])
        self.assertEqual(states_of(chained([read(OF_101)], 101)), 101)

    def test_just_where_more_come_up(self):
        for fields, (states, rules) in zip(small_gatherers(80), drawn_sweepers("ab01", "ab01", 80)):
            gatherer, walker = Gatherer(*fields), Walker("ab01", states, rules)
            _, boxes, begins, made_rules, ends = made_along(fields, states, rules)
            count = states_of(Gatherer(fields[0], boxes, begins, made_rules, ends))
            self.assertEqual(states_of(behind(gatherer, walker, count)), count)
            self.assert_too_many(count - 1, behind, gatherer, walker, count - 1)

    def test_one_more_than_needed_is_no_matter(self):
        copier = Walker("ab", 1, copier_rules("ab"))
        for most in (3, 4, 100, 100000):
            self.assertEqual(made(copier, most).rules, made(copier).rules)

    def test_states_of_the_gatherer_that_do_not_come_up_do_not_count(self):
        rules = {(state, "x"): (state, ()) for state in range(300)}
        gatherer = Gatherer("x", 0, (), rules, {state: () for state in range(300)})
        self.assertEqual(states_of(behind(gatherer, Walker("a", 1, {}), 1)), 1)

    def test_in_chained_it_holds_for_each_making(self):
        copier, reverser = Walker("ab", 1, copier_rules("ab")), Walker("ab", 3, reverser_rules("ab"))
        stays = Walker("ab", 1, {(0, "<"): ("", "right", 0), (0, ">"): ("", "right", 0)})
        counted = Walker("abc", 3, {**thrice_rules("abc"), (0, "b"): ("a", "right", 1), (1, "c"): ("b", "left", 0)})
        for walkers in ([copier, reverser], [stays, copier], [copier, stays, reverser], [counted, stays]):
            gatherer = made(walkers[0], 1000)
            counts = [states_of(gatherer)]
            for walker in walkers[1:]:
                gatherer = behind(gatherer, walker, 1000)
                counts.append(states_of(gatherer))
            self.assertEqual(chained(walkers, max(counts)).rules, gatherer.rules)
            self.assert_too_many(max(counts) - 1, chained, walkers, max(counts) - 1)

    def test_in_chained_the_last_making_may_be_the_one_refused(self):
        first = Walker("x", 1, {(0, "<"): ("", "right", 0), (0, "x"): ("a", "right", 0), (0, ">"): ("", "right", 0)})
        second = Walker("a", 2, {
            (0, "<"): ("", "right", 0), (0, "a"): ("", "right", 1), (1, "a"): ("", "right", 0),
            (0, ">"): ("", "right", 0), (1, ">"): ("", "right", 0),
        })
        alone, both = states_of(made(first)), states_of(chained([first, second]))
        self.assertLess(alone, both)
        for most in range(alone, both):
            self.assert_too_many(most, chained, [first, second], most)
        self.assert_too_many(alone - 1, chained, [first, second], alone - 1)

    def test_by_the_names_of_the_arguments(self):
        copier = Walker("ab", 1, copier_rules("ab"))
        gatherer = Gatherer(*echo_fields("ab"))
        self.assertEqual(made(walker=copier, most=3).outcome("ab"), ("told", "ab"))
        self.assertEqual(behind(gatherer=gatherer, walker=copier, most=3).outcome("ab"), ("told", "ab"))
        self.assertEqual(chained(walkers=[copier], most=3).outcome("ab"), ("told", "ab"))

    def test_nothing_is_changed_where_it_is_refused(self):
        copier = Walker("ab", 1, copier_rules("ab"))
        self.assert_too_many(2, made, copier, 2)
        self.assertEqual(copier.rules, copier_rules("ab"))
        self.assertEqual(states_of(made(copier)), 3)


if __name__ == "__main__":
    unittest.main()
