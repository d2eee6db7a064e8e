import unittest

from helper import drawn_gatherers, drawn_texts, echo_fields, mirror_fields
from twowaypen.gatherers import Gatherer
from twowaypen.writers import Writer

TEXTS = ["", "a", "ab", "bba", "abz", "ab" * 150]


def all_told(writer):
    return [(writer.walk(text), writer.outcome(text), writer.origins(text)) for text in TEXTS]


class Kept(unittest.TestCase):
    def test_a_gatherer_is_a_writer(self):
        self.assertIsInstance(Gatherer("a", 0, (), {}, {}), Writer)

    def test_fields_are_as_handed_in(self):
        for letters, boxes, begins, rules, ends in drawn_gatherers(60):
            gatherer = Gatherer(letters, boxes, begins, rules, ends)
            self.assertEqual(gatherer.letters, letters)
            self.assertEqual(gatherer.boxes, boxes)
            self.assertEqual(gatherer.begins, begins)
            self.assertIs(type(gatherer.begins), tuple)
            self.assertEqual(list(gatherer.rules.items()), list(rules.items()))
            self.assertEqual(list(gatherer.ends.items()), list(ends.items()))
            self.assertIsNot(gatherer.rules, rules)
            self.assertIsNot(gatherer.ends, ends)

    def test_by_the_names_of_its_arguments(self):
        letters, boxes, begins, rules, ends = mirror_fields("ab")
        gatherer = Gatherer(letters=letters, boxes=boxes, begins=begins, rules=rules, ends=ends)
        self.assertEqual(gatherer.outcome(text="ab"), ("told", "8ab00ba9"))
        self.assertEqual(gatherer.origins(text="ab"), [0, 1, 2, 0, 0, 2, 1, 0])
        self.assertEqual(gatherer.walk(text="ab")[0], "told")

    def test_what_is_changed_behind_it_changes_nothing(self):
        for make in (echo_fields, mirror_fields):
            letters, boxes, begins, rules, ends = make("ab")
            gatherer = Gatherer(letters, boxes, begins, rules, ends)
            told = all_told(gatherer)
            rules[(0, "a")] = (5, ((),) * boxes)
            rules[(0, "z")] = (0, ((),) * boxes)
            ends[0] = ("other",)
            self.assertEqual(all_told(gatherer), told)
            rules.clear()
            ends.clear()
            self.assertEqual(all_told(gatherer), told)
            self.assertEqual((gatherer.rules, gatherer.ends), make("ab")[3:])

    def test_two_of_the_same_share_no_dict(self):
        fields = echo_fields("ab")
        one, other = Gatherer(*fields), Gatherer(*fields)
        self.assertIsNot(one.rules, other.rules)
        self.assertIsNot(one.ends, other.ends)

    def test_asking_changes_nothing(self):
        fields = mirror_fields("ab")
        gatherer = Gatherer(*fields)
        all_told(gatherer)
        self.assertEqual(fields, mirror_fields("ab"))
        kept = (gatherer.letters, gatherer.boxes, gatherer.begins, gatherer.rules, gatherer.ends)
        self.assertEqual(kept, mirror_fields("ab"))

    def test_lists_that_were_told_can_be_changed(self):
        word = ("ab", 1, ("x",), {(0, letter): (0, ((0,),)) for letter in "ab"}, {0: "round"})
        one_box = ("ab", 1, ("x",), {(0, letter): (0, ((0,),)) for letter in "ab"}, {0: (0,)})
        for fields in (mirror_fields("ab"), word, one_box):
            gatherer = Gatherer(*fields)
            told = all_told(gatherer)
            for text in TEXTS:
                gatherer.walk(text)[1].clear()
                gatherer.walk(text)[1].append(("x", 5))
                gatherer.origins(text).clear()
                gatherer.origins(text).append(5)
            self.assertEqual(all_told(gatherer), told)

    def test_two_asked_in_turn(self):
        one, other = Gatherer(*echo_fields("ab")), Gatherer(*mirror_fields("ab"))
        for text in ("", "ab", "aab", "ab" * 150) * 2:
            there = list(range(1, len(text) + 1))
            self.assertEqual(one.outcome(text), ("told", text))
            self.assertEqual(other.outcome(text), ("told", "8" + text + "00" + text[::-1] + "9"))
            self.assertEqual(one.origins(text), there)
            self.assertEqual(other.origins(text), [0, *there, 0, 0, *there[::-1], 0])

    def test_kinds_of_what_is_told(self):
        for gatherer in (Gatherer(*mirror_fields("ab")), Gatherer("ab", 0, (), {}, {})):
            self.assertIs(type(gatherer.walk("ab")), tuple)
            self.assertIs(type(gatherer.walk("ab")[1]), list)
            self.assertIs(type(gatherer.outcome("ab")), tuple)
            self.assertIs(type(gatherer.origins("ab")), list)
        for piece in Gatherer(*mirror_fields("ab")).walk("ab")[1]:
            self.assertIs(type(piece), tuple)

    def test_the_walk_tells_what_outcome_and_origins_tell(self):
        for fields in drawn_gatherers(200):
            gatherer = Gatherer(*fields)
            for text in drawn_texts(fields[0], [0, 1, 4, 30]):
                word, pieces = gatherer.walk(text)
                self.assertIn(word, ("told", "stuck", "round"))
                self.assertTrue(all(len(piece) > 0 for piece, _ in pieces))
                if word != "told":
                    self.assertEqual(pieces, [])
                self.assertEqual(gatherer.outcome(text), (word, "".join(piece for piece, _ in pieces)))
                origins = [origin for piece, origin in pieces for _ in piece]
                self.assertEqual(gatherer.origins(text), origins)


if __name__ == "__main__":
    unittest.main()
