import itertools
import random
import unittest

from helper import (
    TO_AND_FRO, Boxed, as_row, copier_rules, drawn_sweepers, drawn_texts, drawn_walkers, gone_along, held_texts,
    passage_along, passage_fields,
)
from twowaypen.passages import Passage, fate, joined, over
from twowaypen.rows import filled
from twowaypen.walkers import Walker


def expected(rules, states, stretch):
    return passage_along(rules, states, stretch) if stretch else None


def told(passage):
    return passage and passage_fields(passage)


def with_rows(passage, rows):
    return passage and Passage(passage.starts, passage.nexts, tuple(rows))


def cuts(stretch, count):
    """All ways to cut a stretch so often, parts without signs among them."""
    for places in itertools.combinations_with_replacement(range(len(stretch) + 1), count):
        ends = [0, *places, len(stretch)]
        yield [stretch[at:to] for at, to in zip(ends, ends[1:])]


class ByHand(unittest.TestCase):
    def test_none(self):
        passage = over(Walker("ab", 1, copier_rules("ab")), "aba")
        self.assertIsNone(joined(None, None))
        self.assertEqual(passage_fields(joined(passage, None)), ((0, 1), (1, -2), (("ab",), ("a",))))
        self.assertEqual(passage_fields(joined(None, passage)), ((0, 1), (1, -2), (("ab",), ("a",))))

    def test_one_way_through(self):
        walker = Walker("ab", 1, copier_rules("ab"))
        one, other = over(walker, "ab"), over(walker, "ba")
        self.assertEqual(passage_fields(joined(one, other)), ((0, 1), (1, -2), (("abb",), ("a",))))
        self.assertEqual(passage_fields(joined(other, one)), ((0, 1), (1, -2), (("baa",), ("b",))))

    def test_several_times_over_the_place_of_the_cut(self):
        walker = Walker("abc", 4, TO_AND_FRO)
        self.assertEqual(
            passage_fields(joined(over(walker, "ca"), over(walker, "bc"))),
            (
                (0, "stuck", "stuck", 3, 4, "stuck", "stuck", 2),
                (1, 2, -8, 1, -5),
                (("wpqrs",), ("tu",), ("v",), ("v",), ("w",)),
            ),
        )

    def test_several_times_over_it_with_boxes(self):
        one = Passage((0, "stuck", "stuck", 2, 1, 4, "stuck", 3), (1, -5, 3, -8, -7), ((0,), (1,), (2,), (3,), (4,)))
        other = Passage(
            (0, "stuck", 1, 2, 4, "stuck", "stuck", 3), (-2, -4, 3, -8, -5), ((5,), (6,), (7,), (8,), (9,)),
        )
        whole = joined(one, other)
        self.assertEqual(
            passage_fields(whole),
            (
                (0, "stuck", "stuck", 3, 4, "stuck", "stuck", 2),
                (1, 2, -8, 1, -5),
                ((0, 1, 5, 4, 6), (3, 7), (8,), (2,), (9,)),
            ),
        )
        self.assertEqual(fate(whole, 0), (7, (0, 1, 5, 4, 6, 3, 7, 8)))
        self.assertEqual(fate(whole, 1), ("stuck", ()))
        self.assertEqual(fate(whole, 3), (7, (2, 3, 7, 8)))

    def test_round_in_the_whole_alone(self):
        walker = Walker("ab", 1, {(0, "a"): ("x", "right", 0), (0, "b"): ("y", "left", 0)})
        one, other = over(walker, "a"), over(walker, "b")
        self.assertEqual(passage_fields(one), ((0, 0), (-2,), (("x",),)))
        self.assertEqual(passage_fields(other), ((0, 0), (-1,), (("y",),)))
        self.assertEqual(passage_fields(joined(one, other)), (("round", "round"), (), ()))
        self.assertEqual(passage_fields(joined(other, one)), ((0, 1), (-1, -2), (("y",), ("x",))))

    def test_stuck_in_the_whole_alone(self):
        walker = Walker("ab", 1, {(0, "a"): ("x", "right", 0)})
        one, other = over(walker, "aa"), over(walker, "b")
        self.assertEqual(passage_fields(one), ((0, 1), (1, -2), (("x",), ("x",))))
        self.assertEqual(passage_fields(joined(one, other)), (("stuck", "stuck"), (), ()))
        self.assertEqual(passage_fields(joined(other, one)), (("stuck", 0), (-2,), (("x",),)))

    def test_a_node_of_a_part_need_not_be_one_of_the_whole(self):
        one = Passage((0, 1), (1, -2), ((0,), (1,)))
        other = Passage((0, 1), (1, -2), ((2,), (3,)))
        self.assertEqual(passage_fields(joined(one, other)), ((0, 1), (1, -2), ((0, 1, 2), (3,))))

    def test_texts_are_put_together_and_none_is_without_signs(self):
        one = Passage((0, 1), (1, -2), (("x", 0, "y"), ("z",)))
        other = Passage((0, 1), (1, -2), (("w", 1), ()))
        self.assertEqual(passage_fields(joined(one, other)), ((0, 1), (1, -2), (("x", 0, "yzw", 1), ())))
        self.assertEqual(passage_fields(joined(other, one)), ((0, 1), (1, -2), (("w", 1, "x", 0, "y"), ("z",))))

    def test_rows_with_texts_side_by_side_are_put_together_too(self):
        one = Passage((0, 1), (1, -2), (("x", "x", 0, "y", "y"), ("z", "z")))
        other = Passage((0, 0), (-2,), (("v", "w", 1),))
        self.assertEqual(passage_fields(joined(one, other)), ((0, 1), (1, -2), (("xx", 0, "yyzz"), ("vw", 1))))
        for alone in (joined(one, None), joined(None, one)):
            self.assertEqual(passage_fields(alone), ((0, 1), (1, -2), (("xx", 0, "yy"), ("zz",))))
        self.assertEqual(fate(one, 0), (1, ("xx", 0, "yyzz")))


class Cut(unittest.TestCase):
    """The passages of the parts joined, beside the walks gone along in the whole."""

    def compare(self, letters, states, rules, stretch):
        walker = Walker(letters, states, rules)
        whole = expected(rules, states, stretch)
        self.assertEqual(told(over(walker, stretch)), whole, (rules, stretch))
        for one, other in cuts(stretch, 1):
            self.assertEqual(told(joined(over(walker, one), over(walker, other))), whole, (rules, one, other))

    def test_drawn_walkers(self):
        for letters, states, rules in drawn_walkers(250):
            for stretch in drawn_texts(letters, [0, 1, 2, 3, 5, 9]):
                self.compare(letters, states, rules, stretch)

    def test_drawn_sweepers(self):
        for states, rules in drawn_sweepers("ab", "abx", 250):
            for stretch in drawn_texts("ab", [0, 1, 2, 3, 5, 9]):
                self.compare("ab", states, rules, stretch)

    def test_with_marks_and_other_signs(self):
        for states, rules in drawn_sweepers("ab", "xy", 100):
            for stretch in ["<ab>", "ab><ba", *drawn_texts("aabb<>aabbq", [2, 4, 8])]:
                self.compare("ab", states, rules, stretch)

    def test_long_stretches(self):
        for states, rules in itertools.islice(drawn_sweepers("ab", "xy", 500), 0, 500, 25):
            walker = Walker("ab", states, rules)
            stretch = drawn_texts("ab", [200])[0]
            for at in (1, 60, 100, 199):
                whole = joined(over(walker, stretch[:at]), over(walker, stretch[at:]))
                self.assertEqual(told(whole), passage_along(rules, states, stretch))

    def test_sign_by_sign(self):
        for states, rules in drawn_sweepers("ab", "xy", 60):
            walker = Walker("ab", states, rules)
            stretch = drawn_texts("ab", [30])[0]
            from_left = from_right = None
            for sign in stretch:
                from_left = joined(from_left, over(walker, sign))
            for sign in reversed(stretch):
                from_right = joined(over(walker, sign), from_right)
            self.assertEqual(told(from_left), passage_along(rules, states, stretch))
            self.assertEqual(told(from_right), passage_along(rules, states, stretch))

    def test_three_joined_either_way_are_alike(self):
        for states, rules in drawn_sweepers("ab", "xyz", 120):
            walker = Walker("ab", states, rules)
            for stretch in drawn_texts("ab", [0, 1, 3, 5]):
                for parts in cuts(stretch, 2):
                    one, other, third = [over(walker, part) for part in parts]
                    left = joined(joined(one, other), third)
                    right = joined(one, joined(other, third))
                    self.assertEqual(told(left), told(right), (rules, parts))
                    self.assertEqual(told(left), expected(rules, states, stretch), (rules, parts))

    def test_what_is_stuck_or_round_in_the_whole_alone_is_among_them(self):
        words = []
        for letters, states, rules in drawn_walkers(100):
            for stretch in drawn_texts(letters, [2, 4, 6]):
                half = len(stretch) // 2
                ahead = passage_along(rules, states, stretch[:half])[0][:states]
                whole = passage_along(rules, states, stretch)[0][:states]
                words += [word for start, word in zip(ahead, whole) if isinstance(start, int)]
        self.assertGreater(words.count("round"), 20)
        self.assertGreater(words.count("stuck"), 20)


class WithBoxes(unittest.TestCase):
    """A box of its own in the place of each row, with texts and other boxes beside it."""

    def parts(self, states, rules, one, other):
        walker = Walker("ab", states, rules)
        held, boxes = held_texts(rules, states, (one, other))
        passages = [over(walker, one), over(walker, other)]
        return passages, held, boxes

    def rows_of(self, passage, first):
        return [(first + node,) for node in range(len(passage.rows))] if passage else []

    def assert_plain(self, rows):
        boxes = [piece for row in rows for piece in row if isinstance(piece, int)]
        self.assertEqual(len(set(boxes)), len(boxes))
        for row in rows:
            self.assertNotIn("", row)
            self.assertNotIn((str, str), [(type(one), type(other)) for one, other in zip(row, row[1:])])

    def compare(self, states, rules, one, other, draw):
        passages, held, boxes = self.parts(states, rules, one, other)
        plain = joined(*passages)
        boxed = [with_rows(each, self.rows_of(each, first)) for each, (_, first) in zip(passages, held)]
        whole = joined(*boxed)
        written = Boxed(rules, states, held)
        self.assertEqual(told(whole), written.passage())
        if whole is None:
            return
        self.assertEqual((whole.starts, whole.nexts), (plain.starts, plain.nexts))
        texts = [filled(row, []) for passage in passages if passage for row in passage.rows]
        self.assertEqual([filled(row, texts) for row in whole.rows], [filled(row, []) for row in plain.rows])
        for entry in range(2 * states):
            pairs, end = gone_along(rules, states, one + other, entry)
            row = () if isinstance(end, str) else written.row(pairs)
            self.assertEqual(fate(whole, entry), (end, row))
            self.assertEqual(fate(plain, entry), (end, () if filled(row, texts) == "" else (filled(row, texts),)))
        around = [draw.choice([("x", box, "yz"), ("x", box), (box, "y", boxes + box), (), ("v",), (box,)])
                  for box in range(boxes)]
        wider = joined(*[
            with_rows(each, [around[row[0]] for row in each.rows]) if each else None for each in boxed
        ])
        self.assert_plain(whole.rows)
        self.assert_plain(wider.rows)
        self.assertEqual((wider.starts, wider.nexts), (plain.starts, plain.nexts))
        for row, wide in zip(whole.rows, wider.rows):
            self.assertEqual(wide, as_row([piece for box in row for piece in around[box]]))
        for entry in range(2 * states):
            self.assertEqual(fate(wider, entry)[1], as_row([p for box in fate(whole, entry)[1] for p in around[box]]))

    def test_drawn_sweepers(self):
        draw = random.Random(23)
        for states, rules in drawn_sweepers("ab", "abx", 150):
            for stretch in drawn_texts("ab", [0, 1, 2, 4, 7]):
                for one, other in cuts(stretch, 1):
                    self.compare(states, rules, one, other, draw)

    def test_wild_walkers(self):
        draw = random.Random(24)
        for letters, states, rules in drawn_walkers(150):
            renamed = {(state, sign): rule for (state, sign), rule in rules.items() if sign in "<>"}
            for letter, name in zip(letters, "ab"):
                renamed.update({(state, name): rules[(state, letter)] for state in range(states)
                                if (state, letter) in rules})
            for stretch in drawn_texts("ab", [2, 5, 8]):
                for one, other in cuts(stretch, 1):
                    self.compare(states, renamed, one, other, draw)


class Kept(unittest.TestCase):
    def test_the_two_that_are_handed_in_stay(self):
        for states, rules in drawn_sweepers("ab", "xy", 40):
            walker = Walker("ab", states, rules)
            one, other = over(walker, "abb"), over(walker, "ba")
            kept = passage_fields(one), passage_fields(other)
            whole = passage_fields(joined(one, other))
            for first, second in ((one, None), (None, other), (other, one), (one, one)):
                joined(first, second)
            self.assertEqual((passage_fields(one), passage_fields(other)), kept)
            self.assertEqual(passage_fields(joined(one, other)), whole)

    def test_what_is_done_to_the_one_told_does_nothing_to_those_handed_in(self):
        walker = Walker("ab", 1, copier_rules("ab"))
        for make in (lambda one: joined(one, None), lambda one: joined(None, one), lambda one: joined(one, one)):
            one = over(walker, "ab")
            whole = make(one)
            whole.starts, whole.nexts, whole.rows = (), (), ()
            self.assertEqual(passage_fields(one), ((0, 1), (1, -2), (("a",), ("b",))))

    def test_kinds(self):
        for states, rules in drawn_sweepers("ab", "xy", 20):
            passage = over(Walker("ab", states, rules), "abba")
            for whole in (joined(passage, passage), joined(None, passage), joined(passage, None)):
                self.assertIsInstance(whole, Passage)
                for part in (*passage_fields(whole), *whole.rows):
                    self.assertIs(type(part), tuple)

    def test_by_the_names_of_the_arguments(self):
        walker = Walker("ab", 1, copier_rules("ab"))
        whole = joined(one=over(walker, "a"), other=over(walker, "b"))
        self.assertEqual(passage_fields(whole), ((0, 1), (1, -2), (("a",), ("b",))))


if __name__ == "__main__":
    unittest.main()
