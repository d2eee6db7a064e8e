import itertools
import unittest

from helper import (
    TO_AND_FRO, copier_rules, drawn_sweepers, drawn_texts, drawn_walkers, fate_along, passage_along, passage_fields,
    reverser_rules,
)
from twowaypen.passages import Passage, fate, over
from twowaypen.walkers import Walker

class ByHand(unittest.TestCase):
    def test_no_signs(self):
        self.assertIsNone(over(Walker("ab", 1, copier_rules("ab")), ""))
        self.assertIsNone(over(Walker("a", 4, {}), ""))

    def test_one_way_through(self):
        walker = Walker("ab", 1, copier_rules("ab"))
        self.assertEqual(passage_fields(over(walker, "ab")), ((0, 1), (1, -2), (("a",), ("b",))))
        self.assertEqual(passage_fields(over(walker, "abba")), ((0, 1), (1, -2), (("abb",), ("a",))))
        self.assertEqual(passage_fields(over(walker, "<ab>")), ((0, 1), (1, -2), (("ab",), ())))

    def test_there_and_back(self):
        walker = Walker("ab", 3, reverser_rules("ab"))
        starts, nexts = (0, 2, 3, 1, 5, 4), (1, -4, -2, 4, -6, 2)
        self.assertEqual(passage_fields(over(walker, "ab")), (starts, nexts, ((), (), ("a",), (), (), ("b",))))
        self.assertEqual(passage_fields(over(walker, "abab")), (starts, nexts, ((), (), ("a",), (), (), ("bab",))))

    def test_walks_that_share_their_ends(self):
        rules = {
            (0, "a"): ("x", "right", 0),
            (1, "a"): ("y", "right", 1),
            (0, "c"): ("p", "right", 0),
            (1, "c"): ("q", "right", 0),
        }
        walker = Walker("ac", 2, rules)
        self.assertEqual(
            passage_fields(over(walker, "aca")),
            ((0, 2, 1, 3), (1, -3, 1, -4), (("xp",), ("x",), ("yq",), ("y",))),
        )
        self.assertEqual(
            passage_fields(over(walker, "acaa")),
            ((0, 3, 2, 4), (1, 2, -3, 1, -4), (("xp",), ("x",), ("x",), ("yq",), ("y",))),
        )
        self.assertEqual(
            passage_fields(over(walker, "aacaaa")),
            ((0, 3, 2, 4), (1, 2, -3, 1, -4), (("xxp",), ("xx",), ("x",), ("yyq",), ("y",))),
        )

    def test_to_and_fro_between_two_signs(self):
        walker = Walker("abc", 4, TO_AND_FRO)
        self.assertEqual(
            passage_fields(over(walker, "cabc")),
            (
                (0, "stuck", "stuck", 3, 4, "stuck", "stuck", 2),
                (1, 2, -8, 1, -5),
                (("wpqrs",), ("tu",), ("v",), ("v",), ("w",)),
            ),
        )

    def test_out_again_on_the_side_where_it_came_in(self):
        walker = Walker("ab", 1, {(0, "a"): ("x", "right", 0), (0, "b"): ("y", "left", 0)})
        self.assertEqual(passage_fields(over(walker, "ba")), ((0, 1), (-1, -2), (("y",), ("x",))))
        self.assertEqual(passage_fields(over(walker, "bbaa")), ((0, 1), (-1, -2), (("y",), ("x",))))

    def test_round(self):
        walker = Walker("ab", 1, {(0, "a"): ("x", "right", 0), (0, "b"): ("y", "left", 0)})
        self.assertEqual(passage_fields(over(walker, "ab")), (("round", "round"), (), ()))
        self.assertEqual(passage_fields(over(walker, "bab")), ((0, "round"), (-1,), (("y",),)))
        self.assertEqual(passage_fields(over(walker, "aba")), (("round", 0), (-2,), (("x",),)))

    def test_round_on_a_way_that_does_not_come_back_to_its_first_place(self):
        walker = Walker("abc", 1, {(0, "a"): ("", "right", 0), (0, "b"): ("", "left", 0), (0, "c"): ("", "right", 0)})
        self.assertEqual(passage_fields(over(walker, "ccaabb")), (("round", "round"), (), ()))

    def test_stuck_behind_what_goes_on(self):
        walker = Walker("ab", 1, {(0, "a"): ("x", "right", 0)})
        for stretch in ("ab", "aab", "a<", "az", "b"):
            self.assertEqual(passage_fields(over(walker, stretch)), (("stuck", "stuck"), (), ()), stretch)
        self.assertEqual(passage_fields(over(walker, "ba")), (("stuck", 0), (-2,), (("x",),)))
        self.assertEqual(passage_fields(over(walker, ">aa")), (("stuck", 0), (-2,), (("x",),)))

    def test_no_rules(self):
        for states in range(1, 5):
            self.assertEqual(passage_fields(over(Walker("a", states, {}), "aaa")), (("stuck",) * 2 * states, (), ()))

    def test_what_a_place_wrote_stands_once(self):
        rules = {(state, "a"): ("x", "right", 0) for state in range(4)}
        passage = over(Walker("a", 4, rules), "aaa")
        self.assertEqual(passage.starts, (0, 3, 4, 5, 2, 6, 7, 8))
        self.assertEqual(passage.nexts, (1, 2, -5, 1, 1, 1, -5, -5, -5))
        self.assertEqual(passage.rows, (("x",),) * 9)

    def test_two_hundred_signs(self):
        passage = over(Walker("ab", 3, reverser_rules("ab")), "ab" * 100)
        self.assertEqual(passage.starts, (0, 2, 3, 1, 5, 4))
        self.assertEqual(passage.rows, ((), (), ("a",), (), (), ("b" + "ab" * 99,)))

    def test_fates(self):
        walker = Walker("abc", 4, TO_AND_FRO)
        passage = over(walker, "cabc")
        told = [fate(passage, entry) for entry in range(8)]
        stuck = ("stuck", ())
        self.assertEqual(
            told, [(7, ("wpqrstuv",)), stuck, stuck, (7, ("vtuv",)), (4, ("w",)), stuck, stuck, (7, ("v",))],
        )
        walker = Walker("ab", 1, {(0, "a"): ("x", "right", 0), (0, "b"): ("", "left", 0)})
        passage = over(walker, "bab")
        self.assertEqual([fate(passage, entry) for entry in range(2)], [(0, ()), ("round", ())])


class AgainstTheWalks(unittest.TestCase):
    """The program beside the helper's walks, gone along step by step."""

    def compare(self, letters, states, rules, stretches):
        walker = Walker(letters, states, rules)
        ends = []
        for stretch in stretches:
            passage = over(walker, stretch)
            self.assertEqual(passage_fields(passage), passage_along(rules, states, stretch), (rules, stretch))
            self.assertLessEqual(len(passage.nexts), 4 * states - 1)
            fates = [fate(passage, entry) for entry in range(2 * states)]
            expected = [fate_along(rules, states, stretch, entry) for entry in range(2 * states)]
            self.assertEqual(fates, expected, (rules, stretch))
            ends += [told[0] for told in fates]
        return ends

    def test_every_walker_of_one_state(self):
        choices = [None, ("", "right", 0), ("x", "right", 0), ("y", "left", 0)]
        stretches = ["".join(signs) for length in (1, 2, 3, 4) for signs in itertools.product("ab", repeat=length)]
        for rules in itertools.product(choices, repeat=2):
            known = {(0, sign): rule for sign, rule in zip("ab", rules) if rule is not None}
            self.compare("ab", 1, known, stretches)

    def test_walkers_of_two_states(self):
        choices = [None, *itertools.product(["x"], ["left", "right"], [0, 1])]
        keys = list(itertools.product([0, 1], "ab"))
        for rules in itertools.product(choices, repeat=4):
            named = {key: rule and (str(number), *rule[1:]) for number, (key, rule) in enumerate(zip(keys, rules))}
            known = {key: rule for key, rule in named.items() if rule is not None}
            self.compare("ab", 2, known, ["ab", "aba", "baab"])

    def test_drawn_walkers(self):
        ends = []
        for letters, states, rules in drawn_walkers(250):
            ends += self.compare(letters, states, rules, drawn_texts(letters, [1, 2, 3, 4, 6, 9, 30]))
        self.assertGreater(ends.count("round"), 100)
        self.assertGreater(ends.count("stuck"), 100)
        for out in range(8):
            self.assertGreater(ends.count(out), 100)

    def test_drawn_sweepers(self):
        ends = []
        for states, rules in drawn_sweepers("ab", "abx", 250):
            ends += self.compare("ab", states, rules, drawn_texts("ab", [1, 2, 3, 5, 12, 40]))
        for out in range(8):
            self.assertGreater(ends.count(out), 100)

    def test_stretches_with_marks_and_other_signs(self):
        for states, rules in drawn_sweepers("ab", "xy", 150):
            stretches = drawn_texts("aabb<>", [1, 2, 3, 5, 8, 13]) + drawn_texts("aabb<>aabbq", [2, 4, 8])
            self.compare("ab", states, rules, ["<ab>", "<", ">", "><", "a<b>a", "q", "aqb", *stretches])

    def test_long_stretches(self):
        for states, rules in itertools.islice(drawn_sweepers("ab", "xy", 1000), 0, 1000, 25):
            self.compare("ab", states, rules, drawn_texts("ab", [200, 301]))

    def test_more_states_than_four(self):
        for states, rules in drawn_sweepers("ab", "xyz", 30):
            # The same rules over and over, each time leading on to the next ones.
            grown = {
                (state + ahead, sign): (piece, move, (to + ahead + (sign == "a")) % (3 * states))
                for ahead in (0, states, 2 * states) for (state, sign), (piece, move, to) in rules.items()
            }
            self.compare("ab", 3 * states, grown, drawn_texts("ab", [1, 2, 5, 20]))


class Kept(unittest.TestCase):
    def test_kinds(self):
        for states, rules in drawn_sweepers("ab", "ab", 20):
            passage = over(Walker("ab", states, rules), "abba")
            self.assertIsInstance(passage, Passage)
            for part in (*passage_fields(passage), *passage.rows):
                self.assertIs(type(part), tuple)
            for entry in range(2 * states):
                self.assertIs(type(fate(passage, entry)), tuple)
                self.assertIs(type(fate(passage, entry)[1]), tuple)

    def test_by_the_names_of_the_arguments(self):
        walker = Walker("a", 1, copier_rules("a"))
        passage = over(walker=walker, text="aa")
        self.assertEqual(passage_fields(passage), ((0, 1), (1, -2), (("a",), ("a",))))
        self.assertEqual(fate(passage=passage, entry=0), (1, ("aa",)))

    def test_asked_again_it_is_the_same(self):
        walker = Walker("abc", 4, TO_AND_FRO)
        one = over(walker, "cabc")
        kept = passage_fields(one)
        for entry in range(8):
            fate(one, entry)
        self.assertEqual(passage_fields(one), kept)
        one.starts, one.nexts, one.rows = (), (), ()
        self.assertEqual(passage_fields(over(walker, "cabc")), kept)
        self.assertEqual(walker.rules, TO_AND_FRO)

    def test_two_walkers_asked_in_turn(self):
        one, other = Walker("ab", 1, copier_rules("ab")), Walker("ab", 3, reverser_rules("ab"))
        for stretch in ("ab", "abba", "a") * 2:
            self.assertEqual(passage_fields(over(one, stretch)), passage_along(one.rules, 1, stretch))
            self.assertEqual(passage_fields(over(other, stretch)), passage_along(other.rules, 3, stretch))


if __name__ == "__main__":
    unittest.main()
