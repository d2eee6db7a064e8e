import unittest

from helper import copier_rules, drawn_texts, drawn_walkers, reverser_rules, thrice_rules
from twowaypen.walkers import Walker
from twowaypen.writers import Writer

TEXTS = ["", "a", "ab", "bba", "abz", "ab" * 150]


def all_told(writer):
    return [(writer.walk(text), writer.outcome(text), writer.origins(text)) for text in TEXTS]


class Spelled(Writer):
    """A writer with a walk of its own: the text backwards, in pieces of two signs."""

    def walk(self, text):
        back = text[::-1]
        return "told", [(back[at:at + 2], at + 7) for at in range(0, len(back), 2)]


class WriterItself(unittest.TestCase):
    def test_fields(self):
        for letters in ("a", "z0", "ab9", "dcba"):
            self.assertEqual(Writer(letters).letters, letters)

    def test_it_is_stuck(self):
        writer = Writer("ab")
        for text in TEXTS:
            self.assertEqual(writer.walk(text), ("stuck", []))
            self.assertEqual(writer.outcome(text), ("stuck", ""))
            self.assertEqual(writer.origins(text), [])

    def test_its_lists_are_the_askers_own(self):
        writer = Writer("a")
        writer.walk("a")[1].append(("x", 1))
        writer.origins("a").append(1)
        self.assertEqual(writer.walk("a"), ("stuck", []))
        self.assertEqual(writer.outcome("a"), ("stuck", ""))
        self.assertEqual(writer.origins("a"), [])
        self.assertEqual(Writer("b").walk("a"), ("stuck", []))

    def test_outcome_and_origins_are_told_by_the_walk(self):
        writer = Spelled("abc")
        self.assertEqual(writer.outcome("abcab"), ("told", "bacba"))
        self.assertEqual(writer.origins("abcab"), [7, 7, 9, 9, 11])
        self.assertEqual(writer.outcome(""), ("told", ""))
        self.assertEqual(writer.origins(""), [])


class WalkerAsWriter(unittest.TestCase):
    def test_a_walker_is_a_writer(self):
        self.assertIsInstance(Walker("a", 1, {}), Writer)

    def test_fields_are_as_handed_in(self):
        for letters, states, rules in drawn_walkers(40):
            walker = Walker(letters, states, rules)
            self.assertEqual(walker.letters, letters)
            self.assertEqual(walker.states, states)
            self.assertEqual(list(walker.rules.items()), list(rules.items()))
            self.assertIsNot(walker.rules, rules)

    def test_by_the_names_of_its_arguments(self):
        rules = copier_rules("a")
        walker = Walker(letters="a", states=1, rules=rules)
        self.assertEqual((walker.letters, walker.states, walker.rules), ("a", 1, rules))
        self.assertEqual(walker.outcome(text="aa"), ("told", "aa"))
        self.assertEqual(walker.origins(text="aa"), [1, 2])
        self.assertEqual(walker.walk(text="aa")[0], "told")

    def test_rules_changed_behind_it_change_nothing(self):
        for make, states in ((copier_rules, 1), (reverser_rules, 3), (thrice_rules, 3)):
            rules = make("ab")
            walker = Walker("ab", states, rules)
            told = all_told(walker)
            rules[(0, "a")] = ("zzz", "left", 0)
            self.assertEqual(all_told(walker), told)
            self.assertEqual(walker.rules, make("ab"))
            rules.clear()
            self.assertEqual(all_told(walker), told)
            self.assertEqual(walker.rules, make("ab"))

    def test_two_of_the_same_rules_share_no_dict(self):
        rules = copier_rules("ab")
        self.assertIsNot(Walker("ab", 1, rules).rules, Walker("ab", 1, rules).rules)

    def test_asking_changes_no_rules(self):
        rules = thrice_rules("ab")
        walker = Walker("ab", 3, rules)
        all_told(walker)
        self.assertEqual(list(rules.items()), list(thrice_rules("ab").items()))
        self.assertEqual(list(walker.rules.items()), list(thrice_rules("ab").items()))

    def test_lists_that_were_told_can_be_changed(self):
        walker = Walker("ab", 3, thrice_rules("ab"))
        told = all_told(walker)
        for text in TEXTS:
            walker.walk(text)[1].clear()
            walker.walk(text)[1].append(("x", 5))
            walker.origins(text).clear()
            walker.origins(text).append(5)
        self.assertEqual(all_told(walker), told)

    def test_two_asked_in_turn(self):
        one = Walker("ab", 1, copier_rules("ab"))
        other = Walker("ab", 3, reverser_rules("ab"))
        for text in ("", "ab", "aab", "ab" * 150) * 2:
            self.assertEqual(one.outcome(text), ("told", text))
            self.assertEqual(other.outcome(text), ("told", text[::-1]))
            self.assertEqual(one.origins(text), list(range(1, len(text) + 1)))
            self.assertEqual(other.origins(text), list(range(len(text), 0, -1)))

    def test_kinds_of_what_is_told(self):
        for walker in (Walker("ab", 3, thrice_rules("ab")), Walker("ab", 1, {})):
            self.assertIs(type(walker.walk("ab")), tuple)
            self.assertIs(type(walker.walk("ab")[1]), list)
            self.assertIs(type(walker.outcome("ab")), tuple)
            self.assertIs(type(walker.origins("ab")), list)
        for piece in Walker("ab", 3, thrice_rules("ab")).walk("ab")[1]:
            self.assertIs(type(piece), tuple)

    def test_the_walk_tells_what_outcome_and_origins_tell(self):
        for letters, states, rules in drawn_walkers(200):
            walker = Walker(letters, states, rules)
            for text in drawn_texts(letters, [0, 1, 4, 30]):
                word, pieces = walker.walk(text)
                self.assertIn(word, ("told", "stuck", "round"))
                self.assertTrue(all(len(piece) > 0 for piece, _ in pieces))
                if word != "told":
                    self.assertEqual(pieces, [])
                written = "".join(piece for piece, _ in pieces)
                self.assertEqual(walker.outcome(text), (word, written))
                origins = [origin for piece, origin in pieces for _ in piece]
                self.assertEqual(walker.origins(text), origins)


if __name__ == "__main__":
    unittest.main()
