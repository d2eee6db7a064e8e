import itertools
import random
import unittest

from helper import drawn_gatherers, drawn_walkers, echo_fields, first_wrong, mirror_fields, reverser_rules
from twowaypen.gatherers import Gatherer
from twowaypen.reader import read
from twowaypen.shown import shown
from twowaypen.walkers import Walker


def rows(*texts):
    return "\n".join(texts)


def fields(writer):
    return dict(vars(writer))


def merged(row):
    """A row, or an end, with texts side by side put to one."""
    if isinstance(row, str):
        return row
    pieces = []
    for kind, group in itertools.groupby(row, type):
        pieces += ["".join(group)] if kind is str else group
    return tuple(pieces)


class WalkerWritten(unittest.TestCase):
    def test_no_rules(self):
        self.assertEqual(shown(Walker("a", 1, {})), "walker a 1")
        self.assertEqual(shown(Walker("z0b", 4, {})), "walker z0b 4")

    def test_a_reverser(self):
        self.assertEqual(shown(Walker("ba", 3, reverser_rules("ba"))), rows(
            "walker ba 3",
            "0 < right 0",
            "0 b right 0",
            "0 a right 0",
            "0 > left 1",
            "1 < right 2",
            "1 b left 1 b",
            "1 a left 1 a",
            "2 b right 2",
            "2 a right 2",
            "2 > right 2",
        ))

    def test_pieces_with_and_without_signs(self):
        rules = {(0, "<"): ("", "right", 1), (1, "a"): ("x" * 20, "left", 0), (1, ">"): ("09", "right", 0)}
        self.assertEqual(shown(Walker("a", 2, rules)), rows(
            "walker a 2", "0 < right 1", "1 a left 0 " + "x" * 20, "1 > right 0 09",
        ))

    def test_whatever_the_order_of_the_dict(self):
        every = {(state, sign): ("", "right", 0) for state in (0, 2, 10) for sign in "<z0am>"}
        written = rows("walker z0am 11", *[f"{state} {sign} right 0" for state, sign in every])
        draw = random.Random(5)
        for _ in range(20):
            keys = draw.sample(list(every), len(every))
            self.assertEqual(shown(Walker("z0am", 11, {key: every[key] for key in keys})), written)

    def test_by_the_letters_as_they_stand_not_by_the_alphabet(self):
        rules = {(0, sign): ("", "right", 0) for sign in "ab<>9"}
        for letters in itertools.permutations("ab9"):
            written = shown(Walker("".join(letters), 1, rules)).split("\n")
            self.assertEqual([row[2] for row in written[1:]], ["<", *letters, ">"])

    def test_states_rise_as_numbers(self):
        rules = {(state, "a"): ("", "left", 0) for state in (11, 9, 100, 1, 2, 10)}
        written = shown(Walker("a", 101, rules)).split("\n")
        self.assertEqual([row.split(" ")[0] for row in written[1:]], ["1", "2", "9", "10", "11", "100"])


class GathererWritten(unittest.TestCase):
    def test_no_rules_no_ends_no_boxes(self):
        self.assertEqual(shown(Gatherer("ab", 0, (), {}, {})), rows("gatherer ab 0", "begin"))

    def test_no_boxes(self):
        rules = {(0, "a"): (1, ()), (1, "a"): (0, ())}
        self.assertEqual(shown(Gatherer("a", 0, (), rules, {0: ("x",), 1: ()})), rows(
            "gatherer a 0", "begin", "0 a 1", "1 a 0", "0 end x", "1 end _",
        ))

    def test_an_echo_and_a_mirror(self):
        self.assertEqual(shown(Gatherer(*echo_fields("ba"))), rows(
            "gatherer ba 1", "begin _", "0 b 0 #0.b", "0 a 0 #0.a", "0 end #0",
        ))
        self.assertEqual(shown(Gatherer(*mirror_fields("ab"))), rows(
            "gatherer ab 2", "begin 8 9", "0 a 0 #0.a a.#1", "0 b 0 #0.b b.#1", "0 end #0.00.#1",
        ))

    def test_begins_with_and_without_signs(self):
        gatherer = Gatherer("a", 4, ("", "x", "", "0z" * 10), {}, {})
        self.assertEqual(shown(gatherer), rows("gatherer a 4", "begin _ x _ " + "0z" * 10))

    def test_rows_of_pieces(self):
        for row, word in (
            ((), "_"),
            ((0,), "#0"),
            ((11, 2), "#11.#2"),
            (("ab",), "ab"),
            (("a", "b"), "ab"),
            (("a", "b", "0", 3, "c", "d", 4, 5, "e"), "ab0.#3.cd.#4.#5.e"),
            ((1, "x", "y"), "#1.xy"),
            (("x", "y", 1), "xy.#1"),
        ):
            others = ((),) * 11
            gatherer = Gatherer("a", 12, ("",) * 12, {(5, "a"): (7, (row, *others))}, {3: row})
            self.assertEqual(shown(gatherer).split("\n")[2:], [f"5 a 7 {word}" + " _" * 11, f"3 end {word}"])

    def test_end_words(self):
        gatherer = Gatherer("a", 0, (), {}, {1: "stuck", 0: "round"})
        self.assertEqual(shown(gatherer), rows("gatherer a 0", "begin", "0 end !round", "1 end !stuck"))

    def test_texts_like_the_words_of_the_form(self):
        rules = {(0, "e"): (0, (("end",),))}
        gatherer = Gatherer("e", 1, ("begin",), rules, {0: ("stuck",), 1: ("round",), 2: ("end",)})
        self.assertEqual(shown(gatherer), rows(
            "gatherer e 1", "begin begin", "0 e 0 end", "0 end stuck", "1 end round", "2 end end",
        ))
        self.assertEqual(fields(read(shown(gatherer))), fields(gatherer))

    def test_whatever_the_order_of_the_dicts(self):
        states = (0, 2, 10, 9999)
        rules = {(state, letter): (state, ((0,),)) for state in states for letter in "z0a"}
        ends = {state: (str(state), 0) for state in states}
        written = rows(
            "gatherer z0a 1", "begin _",
            *[f"{state} {letter} {state} #0" for state, letter in rules],
            *[f"{state} end {state}.#0" for state in ends],
        )
        draw = random.Random(6)
        for _ in range(20):
            some_rules = {key: rules[key] for key in draw.sample(list(rules), len(rules))}
            some_ends = {state: ends[state] for state in draw.sample(states, 4)}
            self.assertEqual(shown(Gatherer("z0a", 1, ("",), some_rules, some_ends)), written)

    def test_ends_stand_behind_all_rules(self):
        gatherer = Gatherer("a", 0, (), {(9, "a"): (0, ())}, {0: (), 1: "stuck"})
        self.assertEqual(shown(gatherer).split("\n")[2:], ["9 a 0", "0 end _", "1 end !stuck"])

    def test_numbers_of_more_than_four_figures_are_written_too(self):
        gatherer = Gatherer("a", 0, (), {(10000, "a"): (123456, ())}, {99999: ()})
        self.assertEqual(shown(gatherer).split("\n")[2:], ["10000 a 123456", "99999 end _"])


class WrittenAndRead(unittest.TestCase):
    def each_writer(self):
        for letters, states, rules in drawn_walkers(150):
            yield Walker(letters, states, rules)
        for each in drawn_gatherers(150):
            yield Gatherer(*each)

    def test_what_is_written_is_read_to_one_that_is_written_the_same(self):
        for writer in self.each_writer():
            text = shown(writer)
            self.assertIsNone(first_wrong(text), text)
            again = read(text)
            self.assertIs(type(again), type(writer))
            self.assertEqual(shown(again), text)

    def test_and_to_equal_fields_where_texts_side_by_side_are_one(self):
        plain = 0
        for writer in self.each_writer():
            told = fields(writer)
            if isinstance(writer, Gatherer):
                told["rules"] = {
                    key: (state, tuple(merged(row) for row in held)) for key, (state, held) in writer.rules.items()
                }
                told["ends"] = {state: merged(end) for state, end in writer.ends.items()}
                plain += told == fields(writer)
            self.assertEqual(fields(read(shown(writer))), told)
        self.assertGreater(plain, 5)

    def test_writing_changes_nothing(self):
        for writer in self.each_writer():
            kept = [(name, list(value.items()) if isinstance(value, dict) else value)
                    for name, value in fields(writer).items()]
            text = shown(writer)
            self.assertEqual(shown(writer), text)
            self.assertEqual(kept, [(name, list(value.items()) if isinstance(value, dict) else value)
                                    for name, value in fields(writer).items()])

    def test_outcomes_stay(self):
        for writer in self.each_writer():
            again = read(shown(writer))
            for text in ("", writer.letters, writer.letters[::-1] * 5):
                self.assertEqual(again.outcome(text), writer.outcome(text))
                self.assertEqual(again.origins(text), writer.origins(text))


if __name__ == "__main__":
    unittest.main()
