import unittest

from helper import copier_rules, drawn_sweepers, drawn_walkers, passage_along, passage_fields
from twowaypen.passages import Passage, of_sign, over
from twowaypen.walkers import Walker


class Passages(unittest.TestCase):
    def test_fields_are_as_handed_in(self):
        handed = ((0, "round"), (-2,), ((3, "ab"),))
        self.assertEqual(passage_fields(Passage(*handed)), handed)
        self.assertEqual(passage_fields(Passage(starts=handed[0], nexts=handed[1], rows=handed[2])), handed)


class OfSign(unittest.TestCase):
    def test_to_the_right(self):
        walker = Walker("ab", 1, copier_rules("ab"))
        self.assertEqual(passage_fields(of_sign(walker, "a")), ((0, 0), (-2,), (("a",),)))
        self.assertEqual(passage_fields(of_sign(walker, "b")), ((0, 0), (-2,), (("b",),)))

    def test_to_the_left(self):
        walker = Walker("a", 1, {(0, "a"): ("xy", "left", 0)})
        self.assertEqual(passage_fields(of_sign(walker, "a")), ((0, 0), (-1,), (("xy",),)))

    def test_a_state_without_a_rule_is_stuck_and_numbers_go_on_behind_it(self):
        walker = Walker("a", 3, {(2, "a"): ("", "right", 1), (0, "a"): ("p", "left", 2)})
        self.assertEqual(
            passage_fields(of_sign(walker, "a")), ((0, "stuck", 1, 0, "stuck", 1), (-3, -5), (("p",), ())),
        )

    def test_two_states_that_go_out_alike_are_two_nodes(self):
        walker = Walker("a", 2, {(0, "a"): ("x", "right", 1), (1, "a"): ("x", "right", 1)})
        self.assertEqual(passage_fields(of_sign(walker, "a")), ((0, 1, 0, 1), (-4, -4), (("x",), ("x",))))

    def test_a_piece_without_signs_is_an_empty_row(self):
        walker = Walker("a", 1, {(0, "a"): ("", "right", 0)})
        self.assertEqual(passage_fields(of_sign(walker, "a")), ((0, 0), (-2,), ((),)))

    def test_a_long_piece_is_one_text(self):
        walker = Walker("a", 1, {(0, "a"): ("ab0" * 40, "right", 0)})
        self.assertEqual(of_sign(walker, "a").rows, (("ab0" * 40,),))

    def test_the_marks(self):
        rules = {(0, "<"): ("l", "right", 1), (1, ">"): ("r", "left", 0), (0, ">"): ("", "right", 0)}
        walker = Walker("a", 2, rules)
        self.assertEqual(passage_fields(of_sign(walker, "<")), ((0, "stuck", 0, "stuck"), (-4,), (("l",),)))
        self.assertEqual(passage_fields(of_sign(walker, ">")), ((0, 1, 0, 1), (-3, -1), ((), ("r",))))

    def test_no_rules_for_the_sign(self):
        for sign in "a<>":
            walker = Walker("ab", 2, {(0, "b"): ("x", "right", 0)})
            self.assertEqual(passage_fields(of_sign(walker, sign)), (("stuck",) * 4, (), ()))

    def test_a_sign_that_is_none_of_the_letters(self):
        for states in range(1, 5):
            rules = {(state, "a"): ("x", "right", 0) for state in range(states)}
            for sign in "bz09A#":
                passage = of_sign(Walker("a", states, rules), sign)
                self.assertEqual(passage_fields(passage), (("stuck",) * 2 * states, (), ()))

    def test_every_exit(self):
        for states in range(1, 10):
            for state in range(states):
                left = of_sign(Walker("a", states, {(0, "a"): ("", "left", state)}), "a")
                right = of_sign(Walker("a", states, {(0, "a"): ("", "right", state)}), "a")
                self.assertEqual(left.nexts, (-1 - state,))
                self.assertEqual(right.nexts, (-1 - (states + state),))

    def test_drawn_walkers(self):
        for letters, states, rules in drawn_walkers(200):
            walker = Walker(letters, states, rules)
            for sign in letters + "<>q":
                passage = of_sign(walker, sign)
                self.assertEqual(passage_fields(passage), passage_along(rules, states, sign))
                self.assertEqual(passage_fields(over(walker, sign)), passage_fields(passage))
                self.assertEqual(passage.starts[:states], passage.starts[states:])

    def test_kinds(self):
        for states, rules in drawn_sweepers("ab", "ab", 20):
            passage = of_sign(Walker("ab", states, rules), "a")
            self.assertIsInstance(passage, Passage)
            for part in (*passage_fields(passage), *passage.rows):
                self.assertIs(type(part), tuple)

    def test_by_the_names_of_its_arguments(self):
        walker = Walker("a", 1, copier_rules("a"))
        self.assertEqual(passage_fields(of_sign(walker=walker, sign="a")), ((0, 0), (-2,), (("a",),)))

    def test_asked_again_it_is_the_same_whatever_was_done_to_the_one_told(self):
        rules = copier_rules("a")
        walker = Walker("a", 1, rules)
        one = of_sign(walker, "a")
        one.starts, one.nexts, one.rows = (), (), ()
        self.assertEqual(passage_fields(of_sign(walker, "a")), ((0, 0), (-2,), (("a",),)))
        self.assertEqual(walker.rules, rules)


if __name__ == "__main__":
    unittest.main()
