import unittest

from helper import copier_rules
from twowaypen.errors import BadRule
from twowaypen.walkers import Walker

GOOD = {
    (0, "<"): ("", "right", 1),
    (1, "a"): ("x", "left", 0),
    (1, "b"): ("", "right", 1),
    (0, ">"): ("y", "left", 1),
    (1, ">"): ("", "right", 0),
}
BAD = {
    (2, "a"): ("", "right", 0),
    (1000, ">"): ("", "left", 0),
    (-1, "a"): ("", "right", 0),
    (0, "a"): ("", "right", 2),
    (0, "b"): ("x", "left", -1),
    (0, "c"): ("", "right", 0),
    (0, "A"): ("", "right", 0),
    (0, ""): ("", "right", 0),
    (0, "ab"): ("", "right", 0),
    (0, "ba"): ("", "right", 0),
    (0, "aa"): ("", "right", 0),
    (0, "<>"): ("", "right", 0),
    (0, "<a"): ("", "right", 0),
    (0, "b>"): ("", "right", 0),
    (1, "<"): ("", "left", 0),
    (-7, "c"): ("", "left", 9),
}


class Refused(unittest.TestCase):
    def refusal(self, letters, states, rules):
        with self.assertRaises(BadRule) as taken:
            Walker(letters, states, rules)
        return taken.exception.state, taken.exception.sign

    def test_each_bad_rule_alone(self):
        for key, rule in BAD.items():
            self.assertEqual(self.refusal("ab", 2, {key: rule}), key, key)

    def test_each_bad_rule_among_good_ones(self):
        for key, rule in BAD.items():
            for at in range(len(GOOD) + 1):
                rules = list(GOOD.items())
                rules.insert(at, (key, rule))
                self.assertEqual(self.refusal("ab", 2, dict(rules)), key, key)

    def test_of_two_the_first_in_the_order_of_the_dict(self):
        for one in BAD:
            for other in BAD:
                if one != other:
                    rules = {**GOOD, one: BAD[one], other: BAD[other]}
                    self.assertEqual(self.refusal("ab", 2, rules), one)

    def test_of_all_the_first_in_the_order_of_the_dict(self):
        for turn in range(len(BAD)):
            rows = list(BAD.items())
            rows = rows[turn:] + rows[:turn]
            self.assertEqual(self.refusal("ab", 2, {**GOOD, **dict(rows)}), rows[0][0])

    def test_it_tells_the_rules_own_state_not_the_next_one(self):
        self.assertEqual(self.refusal("a", 2, {(1, "a"): ("", "right", 5)}), (1, "a"))

    def test_two_letters_side_by_side(self):
        for sign in ("ab", "bc", "abc", "cd", "abcd"):
            self.assertEqual(self.refusal("abcd", 1, {(0, sign): ("", "right", 0)}), (0, sign))

    def test_states_at_the_edge(self):
        for states in (1, 2, 3, 4):
            last = states - 1
            Walker("a", states, {(last, "a"): ("", "left", last)})
            for key in ((states, "a"), (-1, "a")):
                self.assertEqual(self.refusal("a", states, {key: ("", "left", 0)}), key)
            for following in (states, -1, -states):
                self.assertEqual(self.refusal("a", states, {(0, "a"): ("", "left", following)}), (0, "a"))

    def test_left_is_bad_at_the_left_mark_alone(self):
        for sign in "a9>":
            Walker("a9", 1, {(0, sign): ("", "left", 0)})
        Walker("a9", 1, {(0, "<"): ("", "right", 0)})
        self.assertEqual(self.refusal("a9", 1, {(0, "<"): ("", "left", 0)}), (0, "<"))

    def test_what_was_handed_in_stays(self):
        rules = {**GOOD, **BAD}
        rows = list(rules.items())
        self.refusal("ab", 2, rules)
        self.assertEqual(list(rules.items()), rows)

    def test_without_the_bad_ones_it_is_made(self):
        rules = {**BAD, **GOOD}
        walker = None
        refused = []
        while walker is None:
            try:
                walker = Walker("ab", 2, rules)
            except BadRule as error:
                refused.append((error.state, error.sign))
                del rules[(error.state, error.sign)]
        self.assertEqual(refused, list(BAD))
        self.assertEqual(walker.rules, GOOD)

    def test_good_ones_are_made(self):
        self.assertEqual(Walker("ab", 2, GOOD).rules, GOOD)
        self.assertEqual(Walker("a", 1, {}).rules, {})
        for letters in ("a", "z0", "09a", "dcba"):
            Walker(letters, 1, copier_rules(letters))

    def test_more_states_and_longer_pieces_are_not_refused(self):
        rules = {(11, "a"): ("x" * 500, "left", 0), (0, "<"): ("", "right", 11)}
        self.assertEqual(Walker("a", 12, rules).rules, rules)


if __name__ == "__main__":
    unittest.main()
