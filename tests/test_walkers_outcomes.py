import itertools
import unittest

from helper import copier_rules, drawn_texts, drawn_walkers, reverser_rules, stepped, thrice_rules
from twowaypen.walkers import Walker


class Outcomes(unittest.TestCase):
    def assert_tells(self, walker, text, word, written="", origins=()):
        self.assertEqual(walker.outcome(text), (word, written))
        self.assertEqual(walker.origins(text), list(origins))


class Told(Outcomes):
    def test_a_copier(self):
        walker = Walker("ab9", 1, copier_rules("ab9"))
        self.assert_tells(walker, "", "told")
        self.assert_tells(walker, "a", "told", "a", [1])
        self.assert_tells(walker, "b9ab", "told", "b9ab", [1, 2, 3, 4])

    def test_a_reverser(self):
        walker = Walker("abc", 3, reverser_rules("abc"))
        self.assert_tells(walker, "", "told")
        self.assert_tells(walker, "abc", "told", "cba", [3, 2, 1])

    def test_to_and_fro_with_pieces_at_marks(self):
        walker = Walker("ab", 3, thrice_rules("ab"))
        self.assert_tells(walker, "", "told", "01234", [0, 0, 0, 0, 0])
        self.assert_tells(walker, "ab", "told", "0ab1ba2ab34", [0, 1, 2, 0, 2, 1, 0, 1, 2, 0, 0])

    def test_long_texts(self):
        text = "abbac" * 60
        there = list(range(1, 301))
        back = there[::-1]
        self.assert_tells(Walker("abc", 1, copier_rules("abc")), text, "told", text, there)
        self.assert_tells(Walker("abc", 3, reverser_rules("abc")), text, "told", text[::-1], back)
        self.assert_tells(
            Walker("abc", 3, thrice_rules("abc")), text, "told",
            "0" + text + "1" + text[::-1] + "2" + text + "34",
            [0, *there, 0, *back, 0, *there, 0, 0],
        )

    def test_told_without_signs(self):
        walker = Walker("a", 1, {(0, sign): ("", "right", 0) for sign in "<a>"})
        for length in (0, 1, 2, 300):
            self.assert_tells(walker, "a" * length, "told")

    def test_a_piece_of_several_signs_has_one_place(self):
        rules = {
            (0, "<"): ("12", "right", 0),
            (0, "a"): ("", "right", 0),
            (0, "b"): ("x" * 20, "right", 0),
            (0, ">"): ("345", "right", 0),
        }
        self.assert_tells(
            Walker("ab", 1, rules), "abab", "told", "12" + "x" * 40 + "345",
            [0, 0] + [2] * 20 + [4] * 20 + [0] * 3,
        )

    def test_it_begins_at_the_left_mark_in_state_nought(self):
        rules = {
            (1, "<"): ("x", "right", 1), (1, ">"): ("x", "right", 1),
            (0, "<"): ("y", "right", 0), (0, ">"): ("z", "right", 1),
        }
        self.assert_tells(Walker("a", 2, rules), "", "told", "yz", [0, 0])

    def test_going_right_from_the_right_mark_ends_it_in_any_state(self):
        for following in range(4):
            rules = {(0, "<"): ("", "right", 0), (0, ">"): ("x", "right", following)}
            self.assert_tells(Walker("a", 4, rules), "", "told", "x", [0])

    def test_a_place_again_in_another_state_is_not_round(self):
        rules = {(0, "<"): ("", "right", 0)}
        for state in range(3):
            rules[(state, ">")] = ("", "left", state + 1)
            rules[(state + 1, "a")] = (str(state), "right", state + 1)
        rules[(0, "a")] = ("", "right", 0)
        rules[(3, ">")] = ("", "right", 3)
        self.assert_tells(Walker("a", 4, rules), "a", "told", "012", [1, 1, 1])

    def test_more_states_than_four_and_longer_pieces(self):
        rules = {(0, "<"): ("", "right", 0), (0, "a"): ("", "right", 0)}
        for state in range(11):
            rules[(state, ">")] = ("x" * 30, "left", state + 1)
            rules[(state + 1, "a")] = ("y" * 30, "right", state + 1)
        rules[(11, ">")] = ("", "right", 11)
        self.assert_tells(
            Walker("a", 12, rules), "aa", "told", ("x" * 30 + "y" * 30) * 11, ([0] * 30 + [2] * 30) * 11,
        )


class NotTold(Outcomes):
    def test_no_rules_at_all(self):
        for text in ("", "a", "ab" * 150):
            self.assert_tells(Walker("ab", 4, {}), text, "stuck")

    def test_a_rule_is_missing(self):
        for missing in copier_rules("ab"):
            rules = copier_rules("ab")
            del rules[missing]
            walker = Walker("ab", 1, rules)
            self.assert_tells(walker, "ab", "stuck")
            if missing[1] in "ab":
                other = "b" if missing[1] == "a" else "a"
                self.assert_tells(walker, other, "told", other, [1])

    def test_a_rule_is_missing_in_the_state_alone(self):
        for state, sign in [(1, "<"), (1, "a"), (2, "a"), (2, ">")]:
            rules = reverser_rules("ab")
            del rules[(state, sign)]
            self.assert_tells(Walker("ab", 3, rules), "ba", "stuck")

    def test_a_sign_that_is_no_letter(self):
        for rules, states in ((copier_rules("ab"), 1), (reverser_rules("ab"), 3)):
            walker = Walker("ab", states, rules)
            for text in ("c", "abc", "cab", "a9b", "A", "ab" * 149 + "z"):
                self.assert_tells(walker, text, "stuck")

    def test_what_was_written_is_not_told(self):
        rules = thrice_rules("a")
        del rules[(2, ">")]
        self.assert_tells(Walker("a", 3, rules), "a" * 300, "stuck")

    def test_round_at_the_marks(self):
        rules = {(0, "<"): ("x", "right", 0), (0, ">"): ("y", "left", 0)}
        self.assert_tells(Walker("a", 1, rules), "", "round")
        self.assert_tells(Walker("a", 1, rules), "a", "stuck")

    def test_round_among_letters(self):
        rules = {
            (0, "<"): ("", "right", 0),
            (0, "a"): ("x", "right", 0),
            (0, "b"): ("", "left", 0),
            (0, ">"): ("", "right", 0),
        }
        walker = Walker("ab", 1, rules)
        self.assert_tells(walker, "aaa", "told", "xxx", [1, 2, 3])
        for text in ("b", "ab", "aab", "a" * 299 + "b"):
            self.assert_tells(walker, text, "round")

    def test_round_between_the_marks_in_many_states(self):
        rules = {}
        for state in range(4):
            rules[(state, "<")] = ("", "right", state)
            rules[(state, "a")] = ("x", "right" if state % 2 == 0 else "left", state)
            rules[(state, ">")] = ("", "left", (state + 1) % 4)
            if state % 2 == 1:
                rules[(state, "<")] = ("", "right", (state + 1) % 4)
        for length in (0, 1, 2, 300):
            self.assert_tells(Walker("a", 4, rules), "a" * length, "round")

    def test_round_ahead_of_a_sign_that_is_no_letter(self):
        rules = {(0, "<"): ("", "right", 0), (0, "a"): ("", "right", 0), (0, "b"): ("", "left", 0)}
        self.assert_tells(Walker("ab", 1, rules), "abz", "round")
        self.assert_tells(Walker("ab", 1, rules), "azb", "stuck")


class AgainstSteps(unittest.TestCase):
    """The program beside the helper's other way of walking."""

    def compare(self, letters, states, rules, texts):
        walker = Walker(letters, states, rules)
        words = []
        for text in texts:
            word, written, origins = stepped(rules, states, text)
            asked = (letters, states, rules, text)
            self.assertEqual(walker.outcome(text), (word, written), asked)
            self.assertEqual(walker.origins(text), origins, asked)
            words.append(word)
        return words

    def test_every_walker_of_one_letter_and_one_state(self):
        right = [None, ("", "right", 0), ("x", "right", 0)]
        any_way = right + [("", "left", 0), ("y", "left", 0)]
        for chosen in itertools.product(right, any_way, any_way):
            rules = {(0, sign): rule for sign, rule in zip("<a>", chosen) if rule is not None}
            self.compare("a", 1, rules, ["", "a", "aa", "b", "aba"])

    def test_walkers_of_one_letter_and_two_states(self):
        steps = [("", move, state) for move in ("right", "left") for state in (0, 1)]
        right, any_way = [None, *steps[:2]], [None, *steps]
        every = itertools.product(right, any_way, any_way, right, any_way, any_way)
        keys = [(state, sign) for state in (0, 1) for sign in "<a>"]
        for chosen in itertools.islice(every, 0, None, 3):
            rules = {key: (str(at), *rule[1:]) for at, (key, rule) in enumerate(zip(keys, chosen)) if rule}
            self.compare("a", 2, rules, ["", "a", "aaa"])

    def test_drawn_walkers(self):
        words = []
        for letters, states, rules in drawn_walkers(600):
            words += self.compare(letters, states, rules, drawn_texts(letters, [0, 1, 2, 3, 5, 9, 40, 300]))
        for word in ("told", "stuck", "round"):
            self.assertGreater(words.count(word), 300, word)


if __name__ == "__main__":
    unittest.main()
