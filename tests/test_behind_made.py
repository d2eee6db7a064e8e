import itertools
import unittest

from helper import (
    copier_rules, drawn_gatherers, drawn_sweepers, drawn_walkers, echo_fields, gatherer_fields, made_along,
    mirror_fields, reverser_rules, small_gatherers, thrice_rules,
)
from twowaypen.behind import behind, chained, echo, made
from twowaypen.gatherers import Gatherer
from twowaypen.reader import read
from twowaypen.shown import shown
from twowaypen.walkers import Walker

MADE_COPIER = """gatherer ab 2
begin _ _
0 a 1 a _
0 b 1 b _
1 a 2 #0 a
1 b 2 #0 b
2 a 2 #0.#1 a
2 b 2 #0.#1 b
0 end _
1 end #0
2 end #0.#1"""
MADE_REVERSER = """gatherer a 6
begin _ _ _ _ _ _
0 a 1 _ a _ _ _ _
1 a 2 #0 _ #1 #2 _ a
2 a 2 #0.#1 _ #2 #3.#4 _ a.#5
0 end _
1 end #0.#1.#2
2 end #0.#1.#5.#2.#3.#4"""
MADE_THRICE = """gatherer a 6
begin _ _ _ _ _ _
0 a 1 a a a _ _ _
1 a 2 #0 a #1 #2 a a
2 a 2 #0.#1 a #2 #3.#4 a a.#5
0 end 01234
1 end 0.#0.1.#1.2.#2.34
2 end 0.#0.#1.1.#5.#2.2.#3.#4.34"""


class Echo(unittest.TestCase):
    def test_its_fields(self):
        for letters in ("a", "ba", "z09", "dcba"):
            self.assertEqual(gatherer_fields(echo(letters)), echo_fields(letters))
            self.assertIsInstance(echo(letters), Gatherer)

    def test_it_tells_what_it_was_handed(self):
        for letters in ("a", "dcb0"):
            gatherer = echo(letters)
            for length in range(4):
                for text in map("".join, itertools.product(letters, repeat=length)):
                    self.assertEqual(gatherer.outcome(text), ("told", text))
                    self.assertEqual(gatherer.origins(text), list(range(1, length + 1)))
            self.assertEqual(gatherer.outcome(letters * 75), ("told", letters * 75))
            self.assertEqual(gatherer.outcome("x"), ("stuck", ""))

    def test_by_the_name_of_its_argument(self):
        self.assertEqual(gatherer_fields(echo(letters="ab")), echo_fields("ab"))


class ByHand(unittest.TestCase):
    def test_made_of_walkers(self):
        self.assertEqual(shown(made(Walker("ab", 1, copier_rules("ab")))), MADE_COPIER)
        self.assertEqual(shown(made(Walker("a", 3, reverser_rules("a")))), MADE_REVERSER)
        self.assertEqual(shown(made(Walker("a", 3, thrice_rules("a")))), MADE_THRICE)

    def test_a_walker_without_rules(self):
        gatherer = made(Walker("ab", 2, {}))
        rules = {(state, letter): (1, ()) for state in (0, 1) for letter in "ab"}
        self.assertEqual(gatherer_fields(gatherer), ("ab", 0, (), rules, {0: "stuck", 1: "stuck"}))

    def test_a_walker_that_is_stuck_at_some_letters_has_states_for_it(self):
        rules = {(0, "<"): ("", "right", 0), (0, "a"): ("a", "right", 0), (0, ">"): ("", "right", 0)}
        self.assertEqual(
            shown(made(Walker("ab", 1, rules))),
            "gatherer ab 2\nbegin _ _\n"
            "0 a 1 a _\n0 b 2 _ _\n1 a 3 #0 a\n1 b 2 _ _\n2 a 4 a _\n2 b 2 _ _\n"
            "3 a 3 #0.#1 a\n3 b 2 _ _\n4 a 4 a _\n4 b 2 _ _\n"
            "0 end _\n1 end #0\n2 end !stuck\n3 end #0.#1\n4 end !stuck",
        )

    def test_states_come_up_in_the_order_of_the_letters(self):
        rules = {(0, "a"): (5, ()), (0, "b"): (7, ()), (7, "b"): (0, ()), (7, "a"): (3, ()), (5, "b"): (9, ())}
        ends = {0: ("x",), 3: "round", 5: ("a", "a"), 7: (), 8: ("a",), 9: ("aba",)}
        gatherer = behind(Gatherer("ba", 0, (), rules, ends), Walker("ab", 1, copier_rules("ab")))
        self.assertEqual(
            gatherer_fields(gatherer),
            (
                "ba", 0, (),
                {(0, "b"): (1, ()), (0, "a"): (2, ()), (1, "b"): (0, ()), (1, "a"): (3, ()), (2, "b"): (4, ())},
                {0: "stuck", 1: (), 2: ("aa",), 3: "round", 4: ("aba",)},
            ),
        )

    def test_begins(self):
        fields = ("a", 1, ("b",), {(0, "a"): (0, ((0, "a"),))}, {0: (0,)})
        gatherer = behind(Gatherer(*fields), Walker("ab", 1, copier_rules("ab")))
        self.assertEqual(
            gatherer_fields(gatherer),
            (
                "a", 2, ("b", ""),
                {(0, "a"): (1, ((0,), ("a",))), (1, "a"): (1, ((0, 1), ("a",)))},
                {0: (0,), 1: (0, 1)},
            ),
        )

    def test_boxes_are_changed_over_and_dropped(self):
        fields = ("xy", 2, ("a", ""), {(0, "x"): (0, ((1,), (0,))), (0, "y"): (0, ((), ("b", 0)))}, {0: (1, "b", 0)})
        gatherer = behind(Gatherer(*fields), Walker("ab", 1, copier_rules("ab")))
        self.assertEqual(
            gatherer_fields(gatherer),
            (
                "xy", 2, ("a", ""),
                {
                    (0, "x"): (1, ((0,), ())),
                    (0, "y"): (2, (("b",), (0,))),
                    (1, "x"): (0, ((0,), ())),
                    (1, "y"): (1, (("b",), ())),
                    (2, "x"): (3, ((0,), (1,))),
                    (2, "y"): (1, (("b",), ())),
                    (3, "x"): (2, ((0,), (1,))),
                    (3, "y"): (2, (("b", 0), (1,))),
                },
                {0: ("b", 0), 1: (0, "b"), 2: (0, 1, "b"), 3: ("b", 0, 1)},
            ),
        )

    def test_ends_that_are_gone_over(self):
        rules = {
            (0, "<"): ("l", "right", 0), (0, "a"): ("p", "right", 0), (0, "b"): ("q", "left", 0),
            (0, ">"): ("r", "right", 0),
        }
        its_rules = {(0, "x"): (0, (("a", 0),)), (0, "y"): (1, ((0,),)), (0, "z"): (2, ((0,),))}
        fields = ("xyz", 1, ("",), its_rules, {0: (0, "a"), 1: ("a", 0, "b"), 2: ("c", 0)})
        gatherer = behind(Gatherer(*fields), Walker("ab", 1, rules))
        self.assertEqual(gatherer.ends[0], ("lpr",))
        self.assertEqual(gatherer.outcome(""), ("told", "lpr"))
        self.assertEqual(gatherer.outcome("x"), ("told", "lppr"))
        self.assertEqual(gatherer.outcome("y"), ("round", ""))
        self.assertEqual(gatherer.outcome("xz"), ("stuck", ""))
        self.assertEqual(sorted(gatherer.ends.values(), key=str), sorted(
            made_along(fields, 1, rules)[4].values(), key=str))

    def test_an_end_is_gone_over_from_mark_to_mark(self):
        rules = {
            (0, "<"): ("l", "right", 0), (0, "a"): ("p", "right", 0), (0, ">"): ("m", "left", 1),
            (1, "a"): ("q", "left", 1), (1, "<"): ("n", "right", 2), (2, "a"): ("", "right", 2),
            (2, ">"): ("r", "right", 0),
        }
        gatherer = behind(Gatherer("x", 0, (), {}, {0: ("a", "a")}), Walker("a", 3, rules))
        self.assertEqual(gatherer.ends, {0: ("lppmqqnr",)})

    def test_words_and_missing_ends(self):
        rules = {(state, "x"): (state + 1, ()) for state in range(3)}
        gatherer = behind(
            Gatherer("x", 0, (), rules, {0: "round", 1: "stuck", 3: ()}), Walker("a", 1, copier_rules("a")),
        )
        self.assertEqual(gatherer.ends, {0: "round", 1: "stuck", 3: ()})

    def test_no_rules_and_no_ends(self):
        gatherer = behind(Gatherer("xy", 2, ("a", ""), {}, {}), Walker("ab", 1, copier_rules("ab")))
        self.assertEqual(gatherer_fields(gatherer), ("xy", 1, ("a",), {}, {}))

    def test_states_that_are_not_come_to_do_not_come_up(self):
        rules = {(5, "x"): (0, ()), (0, "x"): (0, ()), (5, "y"): (6, ())}
        gatherer = behind(Gatherer("xy", 0, (), rules, {5: (), 6: ()}), Walker("a", 1, {}))
        self.assertEqual(gatherer_fields(gatherer), ("xy", 0, (), {(0, "x"): (0, ())}, {}))

    def test_texts_of_a_begin_that_the_walker_does_not_know(self):
        fields = ("x", 2, ("z", "a"), {(0, "x"): (0, ((), (0,)))}, {0: (1,)})
        gatherer = behind(Gatherer(*fields), Walker("a", 1, copier_rules("a")))
        self.assertEqual(gatherer_fields(gatherer), made_along(fields, 1, copier_rules("a")))
        self.assertEqual([gatherer.outcome("x" * length)[0] for length in range(4)], ["told", "stuck", "told", "told"])


class Form(unittest.TestCase):
    def assert_form(self, gatherer):
        """No two texts side by side, and no box twice, in each rule and each end."""
        self.assertIs(type(gatherer), Gatherer)
        ends = [[end] for end in gatherer.ends.values() if not isinstance(end, str)]
        for rows in [rule[1] for rule in gatherer.rules.values()] + ends:
            boxes = [piece for row in rows for piece in row if isinstance(piece, int)]
            self.assertEqual(len(set(boxes)), len(boxes))
            for row in rows:
                self.assertNotIn("", row)
                self.assertNotIn((str, str), [(type(one), type(other)) for one, other in zip(row, row[1:])])
                self.assertIs(type(row), tuple)
        self.assertIs(type(gatherer.begins), tuple)
        for rule in gatherer.rules.values():
            self.assertEqual((type(rule), type(rule[1])), (tuple, tuple))
        # What was made is read and written like any other.
        self.assertEqual(gatherer_fields(read(shown(gatherer))), gatherer_fields(gatherer))


class AgainstTheWalks(Form):
    """What is made, wholly, beside the helper's, told by the walks over texts that came up first."""

    def compare(self, fields, letters, states, rules):
        gatherer = behind(Gatherer(*fields), Walker(letters, states, rules), 1000)
        self.assertEqual(gatherer_fields(gatherer), made_along(fields, states, rules), (fields, rules))
        self.assert_form(gatherer)
        return gatherer

    def test_walkers(self):
        for states, rules in drawn_sweepers("ab", "ab01", 150):
            one = self.compare(echo_fields("ab"), "ab", states, rules)
            other = made(Walker("ab", states, rules), 1000)
            self.assertEqual(gatherer_fields(one), gatherer_fields(other))

    def test_wild_walkers(self):
        for letters, states, rules in itertools.islice(drawn_walkers(120), 60):
            if states < 4:
                self.compare(echo_fields(letters), letters, states, rules)

    def test_gatherers_and_walkers(self):
        for fields, (states, rules) in zip(small_gatherers(220), drawn_sweepers("ab01", "ab01", 220)):
            self.compare(fields, "ab01", states, rules)

    def test_mirrors(self):
        for states, rules in drawn_sweepers("ab89", "xy", 40):
            self.compare(mirror_fields("ab"), "ab89", states, rules)

    def test_gatherers_with_more_boxes_and_longer_texts(self):
        copier, reverser = copier_rules("ab01"), reverser_rules("ab01")
        for fields in drawn_gatherers(8):
            self.compare(fields, "ab01", 1, copier)
            self.compare(fields, "ab01", 3, reverser)

    def test_gatherers_that_were_made(self):
        sweepers = list(drawn_sweepers("ab", "ab", 60))
        for (states, rules), (more, others) in zip(sweepers, reversed(sweepers)):
            fields = gatherer_fields(made(Walker("ab", states, rules), 1000))
            if len(fields[3]) < 30:
                self.compare(fields, "ab", more, others)

    def test_three_chained(self):
        sweepers = list(drawn_sweepers("ab", "ab", 60))
        for at in range(20):
            walkers = [Walker("ab", *each) for each in sweepers[at::20]]
            first = made(walkers[0], 1000)
            second = behind(first, walkers[1], 1000)
            if len(second.rules) < 30:
                whole = self.compare(gatherer_fields(second), "ab", walkers[2].states, walkers[2].rules)
                self.assertEqual(gatherer_fields(chained(walkers, 1000)), gatherer_fields(whole))


if __name__ == "__main__":
    unittest.main()
