import itertools
import unittest

from helper import (
    copier_rules, drawn_gatherers, drawn_sweepers, drawn_texts, drawn_walkers, gatherer_fields, mirror_fields,
    one_behind_the_other, reverser_rules, small_gatherers, stepped, thrice_rules,
)
from twowaypen.behind import behind, chained, made
from twowaypen.errors import TooMany
from twowaypen.gatherers import Gatherer
from twowaypen.walkers import Walker

LENGTHS = [0, 1, 2, 3, 5, 8, 30]


class Outcomes(unittest.TestCase):
    refused = 0

    def compare_unless_too_many(self, *arguments):
        try:
            return self.compare(*arguments)
        except TooMany:
            self.refused += 1
            return []

    def assert_tells(self, writer, text, word, written="", origins=()):
        self.assertEqual(writer.outcome(text), (word, written))
        self.assertEqual(writer.origins(text), list(origins))

    def assert_each_word(self, words, least):
        for word in ("told", "stuck", "round"):
            self.assertGreater(words.count(word), least, word)


class OfWalkers(Outcomes):
    def compare(self, letters, states, rules, texts):
        gatherer = made(Walker(letters, states, rules), 1000)
        words = []
        for text in texts:
            word, written, origins = stepped(rules, states, text)
            self.assert_tells(gatherer, text, word, written, origins)
            words.append(word)
        return words

    def test_by_hand(self):
        reverser = made(Walker("ab", 3, reverser_rules("ab")))
        self.assert_tells(reverser, "", "told")
        self.assert_tells(reverser, "aab", "told", "baa", [3, 2, 1])
        thrice = made(Walker("ab", 3, thrice_rules("ab")))
        self.assert_tells(thrice, "", "told", "01234", [0] * 5)
        self.assert_tells(thrice, "ab", "told", "0ab1ba2ab34", [0, 1, 2, 0, 2, 1, 0, 1, 2, 0, 0])
        self.assert_tells(thrice, "abc", "stuck")

    def test_long_texts(self):
        text, there = "aabab" * 60, list(range(1, 301))
        self.assert_tells(made(Walker("ab", 3, reverser_rules("ab"))), text, "told", text[::-1], there[::-1])
        self.assert_tells(
            made(Walker("ab", 3, thrice_rules("ab"))), text, "told", f"0{text}1{text[::-1]}2{text}34",
            [0, *there, 0, *there[::-1], 0, *there, 0, 0],
        )

    def test_drawn_sweepers(self):
        words = []
        for states, rules in drawn_sweepers("ab", "ab01", 250):
            words += self.compare("ab", states, rules, drawn_texts("ab", LENGTHS))
        self.assert_each_word(words, 100)

    def test_all_short_texts(self):
        texts = ["".join(signs) for length in range(6) for signs in itertools.product("ab", repeat=length)]
        for states, rules in drawn_sweepers("ab", "xyz", 40):
            self.compare("ab", states, rules, texts)

    def test_drawn_walkers(self):
        words = []
        for letters, states, rules in drawn_walkers(150):
            words += self.compare_unless_too_many(letters, states, rules, drawn_texts(letters, LENGTHS))
        self.assertLess(self.refused, 15)
        self.assert_each_word(words, 30)

    def test_signs_that_are_no_letters(self):
        for states, rules in drawn_sweepers("ab", "ab", 30):
            gatherer = made(Walker("ab", states, rules), 1000)
            for text in ("c", "abc", "cab", "aAb", "a9"):
                self.assert_tells(gatherer, text, "stuck")


class OneBehindTheOther(Outcomes):
    def compare(self, fields, letters, states, rules, texts):
        gatherer = behind(Gatherer(*fields), Walker(letters, states, rules), 1000)
        words = []
        for text in texts:
            word, written, origins = one_behind_the_other(fields, states, rules, text)
            self.assert_tells(gatherer, text, word, written, origins)
            words.append(word)
        return words

    def test_by_hand(self):
        mirror = Gatherer(*mirror_fields("ab"))
        same = behind(mirror, Walker("ab089", 1, copier_rules("ab089")))
        self.assert_tells(same, "", "told", "8009", [0] * 4)
        self.assert_tells(same, "ab", "told", "8ab00ba9", [0, 1, 2, 0, 0, 2, 1, 0])
        backwards = behind(mirror, Walker("ab089", 3, reverser_rules("ab089")))
        self.assert_tells(backwards, "ab", "told", "9ab00ba8", [0, 1, 2, 0, 0, 2, 1, 0])
        thrice = behind(mirror, Walker("ab089", 3, thrice_rules("ab089")))
        self.assert_tells(
            thrice, "a", "told", "08a00a919a00a828a00a934",
            [0, 0, 1, 0, 0, 1, 0, 0, 0, 1, 0, 0, 1, 0, 0, 0, 1, 0, 0, 1, 0, 0, 0],
        )

    def test_the_letters_told_are_not_those_handed_in(self):
        fields = ("xy", 1, ("",), {(0, "x"): (0, ((0, "ab"),)), (0, "y"): (0, (("b", 0),))}, {0: (0,)})
        gatherer = behind(Gatherer(*fields), Walker("ab", 3, reverser_rules("ab")))
        self.assertEqual(gatherer.letters, "xy")
        self.assert_tells(gatherer, "xyx", "told", "babab", [3, 3, 1, 1, 2])
        self.assert_tells(gatherer, "ab", "stuck")

    def test_where_the_gatherer_tells_nothing(self):
        copier = Walker("ab", 1, copier_rules("ab"))
        rules = {(0, "x"): (1, ()), (1, "x"): (2, ()), (2, "x"): (3, ())}
        gatherer = behind(Gatherer("xy", 0, (), rules, {0: ("a",), 1: "stuck", 2: "round"}), copier)
        words = [gatherer.outcome("x" * length)[0] for length in range(6)]
        self.assertEqual(words, ["told", "stuck", "round", "stuck", "stuck", "stuck"])
        self.assert_tells(gatherer, "xy", "stuck")

    def test_where_the_walker_tells_nothing(self):
        rules = {(0, "<"): ("x", "right", 0), (0, "a"): ("x", "left", 0), (0, ">"): ("x", "right", 0)}
        fields = ("xyz", 0, (), {(0, "x"): (1, ()), (0, "y"): (2, ()), (0, "z"): (3, ())},
                  {0: (), 1: ("a",), 2: ("b",), 3: ("ab",)})
        gatherer = behind(Gatherer(*fields), Walker("ab", 1, rules))
        words = [gatherer.outcome(text)[0] for text in ("", "x", "y", "z", "xx")]
        self.assertEqual(words, ["told", "round", "stuck", "round", "stuck"])
        self.assert_tells(gatherer, "", "told", "xx", [0, 0])

    def test_drawn_gatherers_and_walkers(self):
        words = []
        for fields, (states, rules) in zip(small_gatherers(300), drawn_sweepers("ab01", "ab01", 300)):
            words += self.compare(fields, "ab01", states, rules, drawn_texts(fields[0], LENGTHS))
        self.assert_each_word(words, 100)

    def test_gatherers_with_many_boxes_and_long_texts(self):
        walkers = [(1, copier_rules("ab01")), (3, reverser_rules("ab01")), (3, thrice_rules("ab01"))]
        words = []
        for fields, walker in zip(drawn_gatherers(90), walkers * 30):
            texts = drawn_texts(fields[0], [0, 1, 2, 5, 20])
            words += self.compare_unless_too_many(fields, "ab01", *walker, texts)
        self.assertLess(self.refused, 15)
        self.assert_each_word(words, 20)

    def test_gatherers_that_were_made(self):
        sweepers = list(drawn_sweepers("ab", "ab", 80))
        words = []
        for (states, rules), (more, others) in zip(sweepers, reversed(sweepers)):
            fields = gatherer_fields(made(Walker("ab", states, rules), 1000))
            words += self.compare(fields, "ab", more, others, drawn_texts("ab", [0, 1, 2, 5, 9]))
        self.assert_each_word(words, 20)

    def test_behind_a_gatherer_made_of_a_gatherer(self):
        sweepers = list(drawn_sweepers("ab01", "ab01", 120))
        words = []
        for fields, one, other in zip(small_gatherers(60), sweepers, reversed(sweepers)):
            first = behind(Gatherer(*fields), Walker("ab01", *one), 1000)
            texts = drawn_texts(fields[0], [0, 1, 3, 6])
            words += self.compare_unless_too_many(gatherer_fields(first), "ab01", *other, texts)
        self.assertLess(self.refused, 15)
        self.assert_each_word(words, 20)

    def test_a_walker_with_more_states_and_longer_pieces(self):
        for states, rules in drawn_sweepers("ab01", "xyz", 40):
            grown = {
                (state + ahead, sign): (piece * 30, move, (to + ahead + (sign == "a")) % (3 * states))
                for ahead in (0, states, 2 * states) for (state, sign), (piece, move, to) in rules.items()
            }
            for fields in itertools.islice(small_gatherers(9), 0, 9, 3):
                texts = drawn_texts(fields[0], [0, 1, 3, 6])
                self.compare_unless_too_many(fields, "ab01", 3 * states, grown, texts)
        self.assertLess(self.refused, 15)


class Chained(Outcomes):
    def compare(self, walkers, texts):
        gatherer = chained([Walker("ab", *walker) for walker in walkers], 1000)
        words = []
        for text in texts:
            word, written, origins = "told", text, list(range(1, len(text) + 1))
            for states, rules in walkers:
                if word == "told":
                    word, written, places = stepped(rules, states, written)
                    origins = [origins[place - 1] if place else 0 for place in places]
            self.assert_tells(gatherer, text, word, written, origins)
            words.append(word)
        return words

    def test_by_hand(self):
        reverser, copier = Walker("ab", 3, reverser_rules("ab")), Walker("ab", 1, copier_rules("ab"))
        twice = {(0, "<"): ("", "right", 0), (0, ">"): ("", "right", 0)}
        twice.update({(0, letter): (letter * 2, "right", 0) for letter in "ab"})
        doubler = Walker("ab", 1, twice)
        self.assert_tells(chained([reverser]), "aab", "told", "baa", [3, 2, 1])
        self.assert_tells(chained([reverser, reverser]), "aab", "told", "aab", [1, 2, 3])
        self.assert_tells(chained([reverser, copier, reverser]), "aab", "told", "aab", [1, 2, 3])
        self.assert_tells(chained([doubler, reverser, doubler]), "ab", "told", "b" * 4 + "a" * 4, [2] * 4 + [1] * 4)
        for walkers in ([reverser], [copier, doubler], [doubler, reverser, doubler]):
            self.assert_tells(chained(walkers), "", "told")
            self.assert_tells(chained(walkers), "abc", "stuck")

    def test_the_first_comes_first(self):
        one = Walker("ab", 1, {**copier_rules("ab"), (0, "a"): ("b", "right", 0)})
        other = Walker("ab", 1, {**copier_rules("ab"), (0, "b"): ("a", "right", 0)})
        self.assert_tells(chained([one, other]), "ab", "told", "aa", [1, 2])
        self.assert_tells(chained([other, one]), "ab", "told", "bb", [1, 2])

    def test_drawn(self):
        sweepers = list(drawn_sweepers("ab", "ab", 60))
        for step in (60, 30, 20):
            words = []
            for at in range(step):
                words += self.compare(sweepers[at::step], drawn_texts("ab", [0, 1, 2, 5, 9]))
            self.assert_each_word(words, 3)

    def test_marks_are_the_next_ones_own(self):
        marker = {(0, "<"): ("a", "right", 0), (0, ">"): ("b", "right", 0)}
        marker.update({(0, letter): (letter, "right", 0) for letter in "ab"})
        for count in (1, 2, 3):
            gatherer = chained([Walker("ab", 1, marker)] * count)
            self.assert_tells(gatherer, "", "told", "a" * count + "b" * count, [0] * 2 * count)
            marks = [0] * count
            self.assert_tells(gatherer, "ba", "told", "a" * count + "ba" + "b" * count, [*marks, 1, 2, *marks])


if __name__ == "__main__":
    unittest.main()
