import random
import unittest

from helper import GATHERER_TEXT, WALKER_TEXT, drawn_gatherers, drawn_walkers
from twowaypen.gatherers import Gatherer
from twowaypen.reader import read
from twowaypen.shown import shown
from twowaypen.walkers import Walker


class WalkerRead(unittest.TestCase):
    def test_fields(self):
        walker = read(WALKER_TEXT)
        self.assertIs(type(walker), Walker)
        self.assertEqual((walker.letters, walker.states), ("ba", 3))
        self.assertEqual(list(walker.rules.items()), [
            ((0, "<"), ("", "right", 0)),
            ((2, ">"), ("xy0", "right", 1)),
            ((0, "b"), ("9", "left", 2)),
            ((1, "a"), ("", "right", 0)),
        ])

    def test_no_rules(self):
        walker = read("walker 0z9a 9999")
        self.assertEqual((walker.letters, walker.states, walker.rules), ("0z9a", 9999, {}))

    def test_numbers_up_to_four_figures(self):
        for number in (0, 9, 10, 100, 1000, 9998):
            walker = read(f"walker a 9999\n{number} a left {number}")
            self.assertEqual(walker.rules, {(number, "a"): ("", "left", number)})

    def test_pieces_as_long_as_one_likes(self):
        walker = read("walker a 1\n0 a left 0 " + "ab0" * 100)
        self.assertEqual(walker.rules, {(0, "a"): ("ab0" * 100, "left", 0)})

    def test_pieces_like_the_words_of_the_form(self):
        for piece in ("left", "right", "end", "begin", "walker", "0", "007"):
            walker = read(f"walker a 1\n0 a left 0 {piece}")
            self.assertEqual(walker.rules, {(0, "a"): (piece, "left", 0)})


class GathererRead(unittest.TestCase):
    def test_fields(self):
        gatherer = read(GATHERER_TEXT)
        self.assertIs(type(gatherer), Gatherer)
        self.assertEqual((gatherer.letters, gatherer.boxes, gatherer.begins), ("ab", 2, ("", "x0")))
        self.assertEqual(list(gatherer.rules.items()), [
            ((0, "a"), (3, ((1, "ab", 0), ()))),
            ((3, "b"), (0, (("x", 0, 1), ("0",)))),
        ])
        self.assertEqual(list(gatherer.ends.items()), [(3, "stuck"), (0, (0, "z")), (9999, "round"), (1, ())])

    def test_kinds(self):
        gatherer = read(GATHERER_TEXT)
        self.assertIs(type(gatherer.begins), tuple)
        for rule in gatherer.rules.values():
            self.assertIs(type(rule), tuple)
            self.assertIs(type(rule[1]), tuple)
            self.assertEqual([type(row) for row in rule[1]], [tuple, tuple])
        self.assertEqual([type(end) for end in gatherer.ends.values()], [str, tuple, str, tuple])

    def test_no_boxes(self):
        gatherer = read("gatherer a 0\nbegin\n0 a 1\n1 end x")
        self.assertEqual((gatherer.boxes, gatherer.begins), (0, ()))
        self.assertEqual((gatherer.rules, gatherer.ends), ({(0, "a"): (1, ())}, {1: ("x",)}))

    def test_no_rules_and_no_ends(self):
        gatherer = read("gatherer a 1\nbegin _")
        self.assertEqual((gatherer.begins, gatherer.rules, gatherer.ends), (("",), {}, {}))

    def test_letters_are_no_end(self):
        gatherer = read("gatherer end 1\nbegin _\n0 e 0 e\n0 n 0 n\n0 d 0 d\n0 end end")
        self.assertEqual(list(gatherer.rules), [(0, "e"), (0, "n"), (0, "d")])
        self.assertEqual(gatherer.ends, {0: ("end",)})

    def test_texts_like_the_end_words_are_texts(self):
        gatherer = read("gatherer a 0\nbegin\n0 end stuck\n1 end round")
        self.assertEqual(gatherer.ends, {0: ("stuck",), 1: ("round",)})

    def test_texts_of_figures_are_no_numbers(self):
        gatherer = read("gatherer a 1\nbegin 00\n0 a 0 007.#0.0")
        self.assertEqual((gatherer.begins, gatherer.rules), (("00",), {(0, "a"): (0, (("007", 0, "0"),))}))

    def test_many_boxes(self):
        count = 1200
        word = ".".join(f"#{box}" for box in range(count))
        gatherer = read(f"gatherer a {count}\nbegin{' _' * count}\n0 end {word}")
        self.assertEqual((gatherer.boxes, gatherer.ends), (count, {0: tuple(range(count))}))


class AnyOrder(unittest.TestCase):
    def test_rules_and_ends_in_any_order(self):
        draw = random.Random(7)
        writers = [Walker(*each) for each in drawn_walkers(60)]
        writers += [Gatherer(*each) for each in drawn_gatherers(60)]
        for writer in writers:
            text = shown(writer)
            rows = text.split("\n")
            head = 1 if isinstance(writer, Walker) else 2
            for _ in range(3):
                mixed = rows[:head] + draw.sample(rows[head:], len(rows) - head)
                again = read("\n".join(mixed))
                self.assertEqual(shown(again), text)
                signs = [tuple(row.split(" ")[:2]) for row in mixed[head:] if " end " not in row]
                self.assertEqual([(str(state), sign) for state, sign in again.rules], signs)

    def test_each_is_a_new_one(self):
        for text in (WALKER_TEXT, GATHERER_TEXT):
            one, other = read(text), read(text)
            self.assertIsNot(one, other)
            self.assertIsNot(one.rules, other.rules)
            one.rules.clear()
            self.assertEqual(shown(read(text)), shown(other))
            self.assertNotEqual(shown(one), shown(other))
        self.assertIsNot(read(GATHERER_TEXT).ends, read(GATHERER_TEXT).ends)

    def test_by_the_names_of_the_arguments(self):
        walker = read(text=WALKER_TEXT)
        self.assertEqual(shown(writer=walker), shown(walker))


if __name__ == "__main__":
    unittest.main()
