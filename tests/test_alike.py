import unittest

from helper import (
    all_texts, copier_rules, drawn_sweepers, drawn_walkers, drawn_ways_back, echo_fields, gatherer_fields,
    mirror_fields, reverser_rules, stepped, thrice_rules, unfolded,
)
from twowaypen.alike import parted, texts_of
from twowaypen.back import walker_of
from twowaypen.behind import made
from twowaypen.gatherers import Gatherer
from twowaypen.walkers import Walker


def marks_only(letters):
    """Rules of a walker that goes over all letters and writes nothing."""
    return {(0, sign): ("", "right", 0) for sign in "<" + letters + ">"}


class Texts(unittest.TestCase):
    def test_by_hand(self):
        self.assertEqual(texts_of("ab", 2), ["", "a", "b", "aa", "ab", "ba", "bb"])
        self.assertEqual(texts_of("ba", 2), ["", "b", "a", "bb", "ba", "ab", "aa"])
        self.assertEqual(texts_of("a", 4), ["", "a", "aa", "aaa", "aaaa"])
        self.assertEqual(texts_of("z0a", 1), ["", "z", "0", "a"])
        self.assertEqual(texts_of("z0", 2), ["", "z", "0", "zz", "z0", "0z", "00"])

    def test_none_and_one_sign(self):
        for letters in ("a", "ba", "9ab0"):
            self.assertEqual(texts_of(letters, 0), [""])
            self.assertEqual(texts_of(letters, 1), ["", *letters])

    def test_all_in_their_order(self):
        for letters, most in (("a", 8), ("ba", 8), ("yxz", 7), ("d0ba", 5), ("abcd", 5)):
            texts = texts_of(letters, most)
            self.assertEqual(texts, all_texts(letters, most))
            self.assertEqual(len(set(texts)), sum(len(letters) ** length for length in range(most + 1)))

    def test_a_new_list_each_time(self):
        one = texts_of("ab", 1)
        one.append("x")
        one[0] = "y"
        self.assertEqual(texts_of("ab", 1), ["", "a", "b"])
        self.assertIs(type(one), list)

    def test_by_the_names_of_the_arguments(self):
        self.assertEqual(texts_of(letters="ab", most=1), ["", "a", "b"])


class Parted(unittest.TestCase):
    def assert_parted(self, one, other, most, text):
        self.assertEqual(parted(one, other, most), text)
        self.assertEqual(parted(other, one, most), text)

    def test_nowhere(self):
        copier, echo = Walker("ab", 1, copier_rules("ab")), Gatherer(*echo_fields("ab"))
        thrice = Walker("ab", 3, thrice_rules("ab"))
        for most in (0, 1, 5, 8):
            self.assertIsNone(parted(copier, copier, most))
            self.assertIsNone(parted(echo, Gatherer(*echo_fields("ab")), most))
            self.assertIsNone(parted(copier, echo, most))
            self.assertIsNone(parted(echo, copier, most))
            self.assertIsNone(parted(thrice, made(thrice), most))

    def test_in_the_text_alone(self):
        copier, reverser = Walker("ab", 1, copier_rules("ab")), Walker("ab", 3, reverser_rules("ab"))
        self.assert_parted(copier, reverser, 8, "ab")
        self.assert_parted(copier, reverser, 2, "ab")
        self.assert_parted(copier, reverser, 1, None)
        self.assert_parted(copier, made(reverser), 8, "ab")

    def test_the_order_of_the_letters(self):
        for letters, text in (("ab", "ab"), ("ba", "ba"), ("z0", "z0"), ("0z", "0z"), ("cab", "ca")):
            copier, reverser = Walker(letters, 1, copier_rules(letters)), Walker(letters, 3, reverser_rules(letters))
            self.assert_parted(copier, reverser, 5, text)

    def test_those_with_fewer_signs_first(self):
        rules = {(0, "a"): (1, ((0, "a"),)), (1, "a"): (2, ((0, "a"),)), (0, "b"): (3, ((0, "b"),))}
        other = Gatherer("ab", 1, ("",), rules, {0: (0,), 1: (0,), 2: "stuck", 3: "stuck"})
        self.assert_parted(Gatherer(*echo_fields("ab")), other, 8, "b")
        self.assert_parted(Gatherer(*echo_fields("ba")), Gatherer("ba", 1, ("",), rules, other.ends), 8, "b")
        self.assert_parted(Gatherer("ab", 0, (), {}, {}), Gatherer(*echo_fields("ab")), 8, "")

    def test_in_the_word_alone(self):
        nothing = Walker("ab", 1, marks_only("ab"))
        stuck = Walker("ab", 1, {key: rule for key, rule in marks_only("ab").items() if key[1] != "b"})
        self.assert_parted(nothing, stuck, 8, "b")
        goes_round = {**marks_only("ab"), (0, "a"): ("", "left", 0)}
        self.assertEqual(Walker("ab", 1, goes_round).outcome("a"), ("round", ""))
        self.assert_parted(nothing, Walker("ab", 1, goes_round), 8, "a")
        without_a = {key: rule for key, rule in marks_only("ab").items() if key[1] != "a"}
        self.assert_parted(Walker("ab", 1, without_a), Walker("ab", 1, goes_round), 8, "a")

    def test_in_the_origins_alone_they_do_not_part(self):
        ahead = Gatherer("a", 1, ("",), {(0, "a"): (0, ((0, "a"),))}, {0: (0,)})
        late = Gatherer("a", 1, ("",), {(0, "a"): (0, (("a", 0),))}, {0: (0,)})
        self.assertNotEqual(ahead.origins("aa"), late.origins("aa"))
        self.assert_parted(ahead, late, 8, None)

    def test_on_the_text_without_signs(self):
        copier = Walker("ab", 1, copier_rules("ab"))
        for most in (0, 1, 8):
            self.assert_parted(copier, Walker("ab", 3, thrice_rules("ab")), most, "")
            self.assert_parted(copier, Gatherer(*mirror_fields("ab")), most, "")
            self.assert_parted(copier, Gatherer("ab", 0, (), {}, {}), most, "")

    def test_on_the_last_text_alone(self):
        for letters, most in (("ab", 3), ("ba", 8), ("a", 8), ("xyz", 4), ("d0ba", 5)):
            last = letters[-1] * most
            rules = {(state, letter): (most + 1, ((0, letter),)) for state in range(most) for letter in letters[:-1]}
            rules.update({(most + 1, letter): (most + 1, ((0, letter),)) for letter in letters})
            rules.update({(state, last[0]): (state + 1, ((0, last[0]),)) for state in range(most)})
            for end in ("stuck", "round", (0, "x"), ()):
                other = Gatherer(letters, 1, ("",), rules, {**{state: (0,) for state in range(most + 2)}, most: end})
                self.assert_parted(Gatherer(*echo_fields(letters)), other, most, last)
                self.assert_parted(Gatherer(*echo_fields(letters)), other, most - 1, None)
                self.assert_parted(Walker(letters, 1, copier_rules(letters)), other, most, last)

    def test_drawn_walkers(self):
        found = []
        sweepers = list(drawn_sweepers("ba", "ab", 150))
        for (states, rules), (others, other_rules) in zip(sweepers, sweepers[1:]):
            first = next((text for text in all_texts("ba", 4)
                          if stepped(rules, states, text)[:2] != stepped(other_rules, others, text)[:2]), None)
            self.assert_parted(Walker("ba", states, rules), Walker("ba", others, other_rules), 4, first)
            found.append(first)
        self.assertGreater(len(set(found)), 3)

    def test_a_rule_changed(self):
        found = []
        for letters, states, rules in drawn_walkers(120):
            key = sorted(rules)[len(rules) // 2]
            changed = {**rules, key: (rules[key][0] + "a", *rules[key][1:])}
            first = next((text for text in all_texts(letters, 3)
                          if stepped(rules, states, text)[:2] != stepped(changed, states, text)[:2]), None)
            self.assert_parted(Walker(letters, states, rules), Walker(letters, states, changed), 3, first)
            found.append(first)
        self.assertGreater(len([text for text in found if text]), 20)
        self.assertGreater(len([text for text in found if text is None]), 20)

    def test_one_of_each(self):
        for fields in drawn_ways_back(80):
            gatherer = Gatherer(*fields)
            walker = walker_of(gatherer)
            self.assert_parted(gatherer, walker, 3, None)
            ends = {**fields[4], max(fields[4], default=0): ("q",)}
            first = next((text for text in all_texts(fields[0], 3)
                          if unfolded(*fields[2:], text)[:2] != unfolded(*fields[2:4], ends, text)[:2]), None)
            self.assert_parted(Gatherer(*fields[:4], ends), walker, 3, first)

    def test_what_is_handed_in_stays(self):
        gatherer, walker = Gatherer(*mirror_fields("ab")), Walker("ab", 3, reverser_rules("ab"))
        for _ in range(2):
            self.assertEqual(parted(gatherer, walker, 3), "")
            self.assertIsNone(parted(walker, walker, 3))
        self.assertEqual(gatherer_fields(gatherer), mirror_fields("ab"))
        self.assertEqual((walker.states, walker.rules), (3, reverser_rules("ab")))

    def test_by_the_names_of_the_arguments(self):
        copier, reverser = Walker("ab", 1, copier_rules("ab")), Walker("ab", 3, reverser_rules("ab"))
        self.assertEqual(parted(one=copier, other=reverser, most=2), "ab")


if __name__ == "__main__":
    unittest.main()
