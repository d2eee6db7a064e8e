import unittest

from helper import (
    all_texts, copier_rules, drawn_sweepers, drawn_texts, drawn_ways_back, echo_fields, gatherer_fields, mirror_fields,
    reverser_rules, states_in, stepped, unfolded,
)
from twowaypen.back import goes_back, walker_of
from twowaypen.behind import behind, made
from twowaypen.errors import TooMany
from twowaypen.gatherers import Gatherer
from twowaypen.walkers import Walker
from twowaypen.writers import Writer

LENGTHS = [6, 9, 30]


def turning(letters, boxes, begin="ab"):
    """Two states; the boxes go round, each with the letter at one of its sides; none is ever empty."""
    rules = {}
    for shift, letter in enumerate(letters, start=1):
        for state in (0, 1):
            numbers = [(box + shift + state) % boxes for box in range(boxes)]
            rows = tuple((number, letter) if number % 2 else (letter, number) for number in numbers)
            rules[(state, letter)] = 1 - state, rows
    row = tuple(range(boxes))
    return letters, boxes, (begin,) * boxes, rules, {0: row, 1: ("b", *row[::-1], "a")}


class Outcomes(unittest.TestCase):
    def compare(self, fields, texts):
        """The walker of the gatherer, held against the gatherer, gone over from behind; and the words told."""
        letters, boxes, begins, rules, ends = fields
        walker = walker_of(Gatherer(*fields))
        self.assertEqual(walker.letters, letters)
        self.assertLessEqual(walker.states, len(states_in(rules, ends)) * (2 * boxes + 1) + 1)
        words = []
        for text in texts:
            word, written, origins = unfolded(begins, rules, ends, text)
            self.assertEqual(walker.outcome(text), (word, written), (fields, text))
            self.assertEqual(walker.origins(text), origins, (fields, text))
            words.append(word)
        return words

    def test_by_hand(self):
        self.compare(echo_fields("ab"), all_texts("ab", 5))
        self.compare(mirror_fields("ab"), all_texts("ab", 5))
        walker = walker_of(Gatherer(*mirror_fields("ab")))
        self.assertEqual(walker.outcome("aab"), ("told", "8aab00baa9"))
        self.assertEqual(walker.origins("aab"), [0, 1, 2, 3, 0, 0, 3, 2, 1, 0])
        self.assertEqual(walker.outcome(""), ("told", "8009"))
        self.assertEqual(walker.origins(""), [0, 0, 0, 0])

    def test_long_texts(self):
        text, there = "aabab" * 60, list(range(1, 301))
        walker = walker_of(Gatherer(*mirror_fields("ab")))
        self.assertEqual(walker.outcome(text), ("told", f"8{text}00{text[::-1]}9"))
        self.assertEqual(walker.origins(text), [0, *there, 0, 0, *there[::-1], 0])

    def test_it_is_a_walker(self):
        for fields in drawn_ways_back(100):
            walker = walker_of(Gatherer(*fields))
            self.assertIsInstance(walker, Walker)
            self.assertIsInstance(walker, Writer)
            self.assertIs(type(walker.states), int)
            self.assertIs(type(walker.rules), dict)
            for (state, sign), (piece, move, following) in walker.rules.items():
                self.assertIn(state, range(walker.states))
                self.assertIn(following, range(walker.states))
                self.assertIn(sign, ["<", *fields[0], ">"])
                self.assertIs(type(piece), str)
                self.assertIn(move, ("left", "right") if sign != "<" else ("right",))
            self.assertEqual(Walker(walker.letters, walker.states, walker.rules).rules, walker.rules)

    def test_a_walk_by_other_steps(self):
        for fields in drawn_ways_back(60):
            walker = walker_of(Gatherer(*fields))
            for text in drawn_texts(fields[0], [0, 1, 2, 5]):
                self.assertEqual(stepped(walker.rules, walker.states, text), unfolded(*fields[2:], text))

    def test_no_rules_and_no_ends(self):
        for boxes in (0, 1, 3):
            begins = ("ab",) * boxes
            self.assertEqual(set(self.compare(("a", boxes, begins, {}, {}), ["", "a", "aa"])), {"stuck"})
            row = ("x", *range(boxes), "y")
            words = self.compare(("a", boxes, begins, {}, {0: row}), ["", "a", "aa"])
            self.assertEqual(words, ["told", "stuck", "stuck"])

    def test_stuck_for_want_of_a_rule(self):
        rules = {(0, "a"): (1, ((0, "a"),)), (1, "b"): (0, ((0, "b"),))}
        words = self.compare(("ab", 1, ("",), rules, {0: (0,), 1: (0,)}), ["", "a", "ab", "aba", "b", "aa", "abb"])
        self.assertEqual(words, ["told"] * 4 + ["stuck"] * 3)

    def test_stuck_for_want_of_an_end(self):
        rules = {(0, "a"): (1, ((0, "a"),)), (1, "a"): (2, ((0, "b"),)), (2, "a"): (0, (("c", 0),))}
        words = self.compare(("a", 1, ("",), rules, {1: (0,), 2: ("x", 0)}), all_texts("a", 5))
        self.assertEqual(words, ["stuck", "told", "told"] * 2)

    def test_end_words(self):
        rules = {(0, "a"): (1, ((0, "a"),)), (1, "a"): (2, ((0, "b"),)), (2, "a"): (0, (("c", 0),))}
        ends = {0: "round", 1: "stuck", 2: (0,)}
        words = self.compare(("a", 1, ("",), rules, ends), all_texts("a", 5))
        self.assertEqual(words, ["round", "stuck", "told"] * 2)
        ends = {0: (0,), 1: "round", 2: "round"}
        words = self.compare(("ab", 1, ("",), rules, ends), [*all_texts("a", 5), "b", "ab", "aab"])
        self.assertEqual(words, ["told", "round", "round"] * 2 + ["stuck"] * 3)

    def test_end_words_without_boxes(self):
        rules = {(0, "a"): (1, ()), (1, "a"): (2, ()), (2, "a"): (0, ()), (0, "b"): (0, ()), (1, "b"): (1, ())}
        for ends in ({0: "round", 1: "round", 2: "round"}, {0: "round", 1: ("x",), 2: "stuck"}, {1: "round"}):
            self.compare(("ab", 0, (), rules, ends), all_texts("ab", 6))
        self.assertEqual(self.compare(("a", 0, (), {}, {0: "round"}), ["", "a"]), ["round", "stuck"])

    def test_signs_that_are_no_letters(self):
        for fields in (*drawn_ways_back(40), ("a", 0, (), {(0, "a"): (0, ())}, {0: "round"})):
            walker = walker_of(Gatherer(*fields))
            for text in ("c", "abc", "c" + fields[0], "A", fields[0] + "-"):
                self.assertEqual(walker.outcome(text), ("stuck", ""))

    def test_texts_ahead_between_and_behind(self):
        rules = {
            (0, "a"): (0, (("1", 0, "2", 1, "3"), ("45",))), (0, "b"): (0, ((1, 0), ("6", "7"))),
            (0, "c"): (0, (("8", "9", 1), (0, "x", "y"))), (0, "d"): (0, ((), (1, "z", 0))),
        }
        for end in ((0,), (1, 0), ("u", 0, "v", "w", 1, "u"), (0, 1, "v"), ("u", 1), ("u",), ()):
            self.compare(("abcd", 2, ("", "begin"), rules, {0: end}), all_texts("abcd", 4))

    def test_boxes_dropped_and_changed_over(self):
        rules = {
            (0, "a"): (1, ((2, "p"), (0,), (1,))), (1, "a"): (0, ((1,), (2, "q"), ("r", 0))),
            (0, "b"): (0, ((), (0, 2), (1, "s"))), (1, "b"): (1, ((2, 1, 0), (), ("t",))),
        }
        for begins in (("", "", ""), ("x", "", "yz"), ("0", "1", "2")):
            for ends in ({0: (0, 1, 2), 1: (2, "m", 0)}, {0: (1,), 1: ()}, {1: ("n", 2, 1, 0)}):
                self.compare(("ab", 3, begins, rules, ends), all_texts("ab", 7))

    def test_begins(self):
        for begins in (("", ""), ("x", ""), ("", "x" * 20), ("01", "23")):
            rules = {(0, "a"): (1, ((1,), (0,))), (1, "a"): (0, ((1, "a"), ("b", 0)))}
            self.compare(("a", 2, begins, rules, {0: (0, 1), 1: (0, "-", 1)}), all_texts("a", 9))

    def test_states_of_any_numbers(self):
        rules = {(9999, "a"): (0, (("x", 0),)), (0, "a"): (42, ((0, "y"),)), (42, "a"): (9999, ((0, "z"),))}
        self.compare(("a", 1, ("b",), rules, {42: (0,), 9999: (0, "e"), 0: ("s", 0)}), all_texts("a", 10))

    def test_states_that_are_never_come_to(self):
        rules = {(0, "a"): (0, ((0, "a"),)), (5, "a"): (6, ((0, "b"),)), (6, "a"): (7, ((),)), (7, "b"): (0, (("c",),))}
        ends = {0: (0,), 6: (0,), 8: "round", 7: "stuck", 10: (0, "x")}
        self.compare(("ab", 1, ("",), rules, ends), all_texts("ab", 5))

    def test_all_short_texts(self):
        words = []
        for fields in drawn_ways_back(300, 2):
            words += self.compare(fields, all_texts(fields[0], 5))
        for word in ("told", "stuck", "round"):
            self.assertGreater(words.count(word), 500, word)

    def test_drawn_gatherers(self):
        words = []
        for fields in drawn_ways_back(500):
            words += self.compare(fields, drawn_texts(fields[0], [0, 1, 2, 3, *LENGTHS]))
        for word in ("told", "stuck", "round"):
            self.assertGreater(words.count(word), 100, word)

    def test_many_states(self):
        rules = {(state, "a"): ((state + 1) % 200, ((0, "ab"), (1,))) for state in range(200)}
        rules.update({(state, "b"): (199 - state, ((1,), ("b", 0))) for state in range(200)})
        ends = {state: (0, "x", 1) for state in range(0, 200, 3)}
        self.compare(("ab", 2, ("", "y"), rules, ends), drawn_texts("ab", [0, 1, 2, 3, 4, 5, 6, 99, 100, 101, 300]))

    def test_gatherers_that_were_made(self):
        words, boxes = [], 0
        walkers = [Walker("ab01xy5", *each) for each in drawn_sweepers("ab01xy5", "ab01xy5", 300)]
        for fields, walker in zip(drawn_ways_back(300), walkers):
            try:
                gatherer = behind(Gatherer(*fields), walker)
            except TooMany:
                continue
            if goes_back(gatherer):
                words += self.compare(gatherer_fields(gatherer), drawn_texts(fields[0], [0, 1, 2, 3, *LENGTHS]))
                boxes = max(boxes, gatherer.boxes)
        self.assertGreaterEqual(boxes, 8)
        for word in ("told", "stuck"):
            self.assertGreater(words.count(word), 50, word)

    def test_gatherers_that_were_made_with_many_boxes(self):
        reverser, copier = Walker("ab", 3, reverser_rules("ab")), Walker("ab", 1, copier_rules("ab"))
        for boxes in (1, 2, 3, 8):
            for walker in (reverser, copier):
                gatherer = behind(Gatherer(*turning("ab", boxes)), walker)
                self.assertIs(goes_back(gatherer), True)
                self.assertGreaterEqual(gatherer.boxes, 2 * boxes)
                self.compare(gatherer_fields(gatherer), [*all_texts("ab", 3), *drawn_texts("ab", [50])])

    def test_gatherers_that_were_made_with_long_pieces(self):
        longer = Walker("ab", 1, {
            (0, "<"): ("a" * 20, "right", 0), (0, "a"): ("ba" * 10, "right", 0), (0, "b"): ("c" * 20, "right", 0),
            (0, ">"): ("b" * 20, "right", 0),
        })
        gatherer = behind(Gatherer(*turning("ab", 2, "ab" * 10)), longer)
        self.assertIs(goes_back(gatherer), True)
        self.assertGreater(max(len(begin) for begin in gatherer.begins), 300)
        self.compare(gatherer_fields(gatherer), [*all_texts("ab", 4), *drawn_texts("ab", [40])])

    def test_the_gatherer_made_of_the_walker(self):
        again, refused = 0, 0
        for fields in drawn_ways_back(250):
            if fields[1] > 3:
                continue
            try:
                gatherer = made(walker_of(Gatherer(*fields)))
            except TooMany:
                refused += 1
                continue
            again += 1
            for text in [*all_texts(fields[0], 3), *drawn_texts(fields[0], LENGTHS)]:
                word, written, origins = unfolded(*fields[2:], text)
                self.assertEqual(gatherer.outcome(text), (word, written))
                self.assertEqual(gatherer.origins(text), origins)
        self.assertGreater(again, 100)
        self.assertLess(refused, again)


class Kept(unittest.TestCase):
    def test_what_is_handed_in_stays(self):
        for fields in drawn_ways_back(60):
            gatherer = Gatherer(*fields)
            walker_of(gatherer)
            self.assertEqual(gatherer_fields(gatherer), fields)
            self.assertEqual(list(gatherer.rules), list(fields[3]))
            self.assertEqual(list(gatherer.ends), list(fields[4]))

    def test_what_is_changed_behind_it_changes_nothing(self):
        gatherer = Gatherer(*mirror_fields("ab"))
        walker = walker_of(gatherer)
        rules = dict(walker.rules)
        gatherer.rules.clear()
        gatherer.ends.clear()
        self.assertEqual(walker.rules, rules)
        self.assertEqual(walker.outcome("ab"), ("told", "8ab00ba9"))

    def test_each_one_told_is_a_new_one(self):
        gatherer = Gatherer(*mirror_fields("ab"))
        one, other = walker_of(gatherer), walker_of(gatherer)
        self.assertIsNot(one, other)
        self.assertIsNot(one.rules, other.rules)
        kept = list(other.rules.items())
        one.rules.clear()
        self.assertEqual(list(other.rules.items()), kept)
        third = walker_of(gatherer)
        self.assertEqual((third.states, list(third.rules.items())), (other.states, kept))

    def test_the_same_question_has_the_same_answer(self):
        gatherers = [Gatherer(*fields) for fields in drawn_ways_back(40)]
        first = [(walker_of(each).states, list(walker_of(each).rules.items())) for each in gatherers]
        second = [(walker_of(each).states, list(walker_of(each).rules.items())) for each in reversed(gatherers)]
        self.assertEqual(first, second[::-1])


if __name__ == "__main__":
    unittest.main()
