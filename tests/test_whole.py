"""The whole promise: whichever way a writer goes through the program, its outcomes and origins stay."""

import unittest

from helper import (
    all_texts, copier_rules, drawn_sweepers, drawn_texts, drawn_ways_back, one_behind_the_other, reverser_rules,
    small_gatherers, stepped, thrice_rules, unfolded,
)
from twowaypen.alike import parted
from twowaypen.back import goes_back, walker_of
from twowaypen.behind import behind, chained, echo, made
from twowaypen.desk import Desk
from twowaypen.errors import TooMany
from twowaypen.gatherers import Gatherer
from twowaypen.lean import leaner, papers
from twowaypen.reader import read
from twowaypen.shown import shown
from twowaypen.walkers import Walker

LONGER = [6, 9, 30]


def in_a_row(writer):
    return shown(writer).replace("\n", "/")


def copier(letters):
    return Walker(letters, 1, copier_rules(letters))


class Whole(unittest.TestCase):
    def assert_copies_nothing(self, gatherer):
        rows = [rows for _, rows in gatherer.rules.values()]
        rows += [(end,) for end in gatherer.ends.values() if not isinstance(end, str)]
        for each in rows:
            boxes = [piece for row in each for piece in row if isinstance(piece, int)]
            self.assertEqual(len(set(boxes)), len(boxes))

    def assert_tells(self, writer, letters, expected):
        """The letters, and what is expected for each text: a dict from texts to (word, text, origins)."""
        self.assertEqual(writer.letters, letters)
        if isinstance(writer, Gatherer):
            self.assert_copies_nothing(writer)
        for text, (word, written, origins) in expected.items():
            self.assertEqual(writer.outcome(text), (word, written), text)
            self.assertEqual(writer.origins(text), origins, text)

    def assert_each_way(self, writers, letters, expected):
        for writer in writers:
            self.assert_tells(writer, letters, expected)
            self.assert_tells(read(shown(writer)), letters, expected)


class Walkers(Whole):
    def ways(self, walker, written):
        gatherer = made(walker, 1000)
        lean = leaner(gatherer)
        copied = behind(gatherer, copier(written), 1000)
        return [
            walker, gatherer, lean, copied, leaner(copied), behind(lean, copier(written), 1000),
            leaner(behind(lean, copier(written), 1000)), behind(echo(walker.letters), walker, 1000),
            chained([walker], 1000), chained([copier(walker.letters), walker], 1000),
            chained([walker, copier(written), copier(written)], 1000),
        ]

    def test_drawn_walkers(self):
        texts = [*all_texts("ab", 4), *drawn_texts("ab", LONGER)]
        for states, rules in drawn_sweepers("ab", "ab0", 60):
            expected = {text: stepped(rules, states, text) for text in texts}
            self.assert_each_way(self.ways(Walker("ab", states, rules), "ab0"), "ab", expected)

    def test_one_behind_the_other(self):
        texts = [*all_texts("ab", 3), *drawn_texts("ab", LONGER)]
        sweepers = list(drawn_sweepers("ab", "ab", 50))
        compared = 0
        for (states, rules), (others, other_rules) in zip(sweepers, sweepers[1:]):
            one, other = Walker("ab", states, rules), Walker("ab", others, other_rules)
            expected = {}
            for text in texts:
                word, written, origins = stepped(rules, states, text)
                if word == "told":
                    word, written, places = stepped(other_rules, others, written)
                    origins = [origins[place - 1] if place else 0 for place in places]
                expected[text] = word, written, origins
            try:
                whole = chained([one, other])
                ways = [whole, leaner(whole), behind(leaner(made(one)), other), behind(leaner(whole), copier("ab"))]
            except TooMany:
                continue
            compared += 1
            self.assert_each_way(ways, "ab", expected)
        self.assertGreater(compared, 25)

    def test_three_one_behind_the_other(self):
        thrice, reverser = Walker("ab", 3, thrice_rules("ab")), Walker("ab01", 3, reverser_rules("ab01"))
        ending = Walker("ab", 3, {**reverser_rules("ab"), (2, ">"): ("ab", "right", 2)})
        for walkers in ([ending, ending, ending], [ending, thrice, copier("ab01234")], [ending, ending, reverser]):
            expected = {}
            for text in [*all_texts("ab", 4), *drawn_texts("ab", LONGER)]:
                written, origins = text, list(range(1, len(text) + 1))
                for walker in walkers:
                    _, written, places = stepped(walker.rules, walker.states, written)
                    origins = [origins[place - 1] if place else 0 for place in places]
                expected[text] = "told", written, origins
            whole = chained(walkers)
            self.assert_each_way([whole, leaner(whole)], "ab", expected)


class Gatherers(Whole):
    def ways(self, gatherer):
        lean = leaner(gatherer)
        walkers = [walker_of(gatherer), walker_of(lean)]
        ways = [gatherer, lean, behind(gatherer, copier("ab01xy5"), 1000), *walkers]
        for walker in walkers:
            try:
                again = made(walker)
                ways += [again, leaner(again), behind(leaner(again), copier("ab01xy5"))]
            except TooMany:
                self.refused += 1
        return ways

    def test_drawn_gatherers(self):
        self.refused = 0
        for fields in drawn_ways_back(120, 3):
            if fields[1] < 4:
                texts = [*all_texts(fields[0], 3), *drawn_texts(fields[0], LONGER)]
                expected = {text: unfolded(*fields[2:], text) for text in texts}
                self.assert_each_way(self.ways(Gatherer(*fields)), fields[0], expected)
        self.assertLess(self.refused, 60)

    def test_a_walker_behind_it(self):
        told, back = 0, 0
        walkers = [Walker("ab01xy5", *each) for each in drawn_sweepers("ab01xy5", "ab", 100)]
        for fields, walker in zip(drawn_ways_back(100, 3), walkers):
            gatherer = Gatherer(*fields)
            expected = {text: one_behind_the_other(fields, walker.states, walker.rules, text)
                        for text in [*all_texts(fields[0], 3), *drawn_texts(fields[0], LONGER)]}
            told += len([each for each in expected.values() if each[0] == "told"])
            try:
                whole = behind(gatherer, walker)
            except TooMany:
                continue
            ways = [whole, leaner(whole), behind(leaner(gatherer), walker)]
            if goes_back(whole):
                back += 1
                ways += [walker_of(whole), walker_of(leaner(whole))]
            try:
                ways += [chained([walker_of(leaner(gatherer)), walker])]
            except TooMany:
                pass
            self.assert_each_way(ways, fields[0], expected)
        self.assertGreater(told, 200)
        self.assertGreater(back, 15)

    def test_any_gatherers(self):
        for fields, (states, rules) in zip(small_gatherers(80), drawn_sweepers("ab01", "ab01", 80)):
            walker = Walker("ab01", states, rules)
            expected = {text: one_behind_the_other(fields, states, rules, text)
                        for text in [*all_texts(fields[0], 3), *drawn_texts(fields[0], LONGER)]}
            whole = behind(Gatherer(*fields), walker, 1000)
            lean = behind(leaner(Gatherer(*fields)), walker, 1000)
            self.assert_each_way([whole, leaner(whole), lean, leaner(lean)], fields[0], expected)
            self.assertEqual(list(papers(leaner(whole))), list(range(leaner(whole).boxes)))


class ByADesk(Whole):
    def says(self, desk, *rows):
        for row in rows:
            self.assertEqual(desk.say(row), "ok", row)

    def assert_desk_tells(self, desk, names, expected, alike):
        """Each name's outcomes, and those of the writer read from what is shown of it; and that they are alike."""
        for name in names:
            writer = read(desk.say("show " + name).replace("/", "\n"))
            for text, (word, written, origins) in expected.items():
                self.assertEqual(desk.say(f"run {name} {text}"), f"told {written}" if word == "told" else word)
                self.assertEqual((*writer.outcome(text), writer.origins(text)), (word, written, origins))
            self.assertEqual(desk.say(f"parted {name} {alike} 4"), "none")
            count = writer.states if isinstance(writer, Walker) else writer.boxes
            self.assertEqual(desk.say("size " + name).split(" ")[1], str(count))

    def test_walkers(self):
        texts = [*all_texts("ab", 4), *drawn_texts("ab", LONGER)]
        for states, rules in drawn_sweepers("ab", "ab", 40):
            walker = Walker("ab", states, rules)
            desk = Desk()
            self.says(desk, "keep w " + in_a_row(walker), "keep c " + in_a_row(copier("ab")))
            try:
                self.says(desk, "made g w", "behind b w c", "behind d c w", "behind e g c")
            except TooMany:
                continue
            self.says(desk, "leaner l g", "leaner m b", "behind k l c")
            self.assertEqual(desk.say("show l"), in_a_row(leaner(made(walker))))
            self.assertEqual(desk.say("show b"), in_a_row(chained([walker, copier("ab")])))
            self.assertEqual(desk.say("show b"), desk.say("show e"))
            expected = {text: stepped(rules, states, text) for text in texts}
            self.assert_desk_tells(desk, "wgbdelmk", expected, "w")

    def test_gatherers(self):
        for fields in drawn_ways_back(80, 2):
            if fields[1] > 3:
                continue
            gatherer = Gatherer(*fields)
            desk = Desk()
            self.says(desk, "keep g " + in_a_row(gatherer), "leaner l g", "back w g", "back v l")
            self.assertEqual(desk.say("show w"), in_a_row(walker_of(read(shown(gatherer)))))
            names = "glwv"
            try:
                self.says(desk, "made n v", "leaner o n")
                names += "no"
            except TooMany:
                pass
            texts = [*all_texts(fields[0], 3), *drawn_texts(fields[0], LONGER)]
            self.assert_desk_tells(desk, names, {text: unfolded(*fields[2:], text) for text in texts}, "g")

    def test_where_two_part(self):
        sweepers = [Walker("ab", *each) for each in drawn_sweepers("ab", "ab", 40)]
        for one, other in zip(sweepers, sweepers[1:]):
            desk = Desk()
            self.says(desk, "keep one " + in_a_row(one), "keep other " + in_a_row(other))
            text = parted(one, other, 5)
            answer = "none" if text is None else "on " + text
            self.assertEqual(desk.say("parted one other 5"), answer)
            try:
                self.says(desk, "made one one", "leaner one one")
            except TooMany:
                continue
            self.assertEqual(desk.say("parted one other 5"), answer)
            self.assertEqual(desk.say("parted other one 5"), answer)


class AskedInTurn(unittest.TestCase):
    def test_nothing_hangs_on_what_was_asked_ahead_of_it(self):
        fields = list(drawn_ways_back(12, 2))
        walkers = [Walker("ab", *each) for each in drawn_sweepers("ab", "ab", 12)]

        def answers(gatherer, walker):
            lean = leaner(gatherer)
            return [
                shown(lean), list(papers(gatherer).items()), shown(walker_of(gatherer)), shown(made(walker, 1000)),
                shown(walker), shown(gatherer), parted(walker, copier("ab"), 4),
            ]

        first = [answers(Gatherer(*each), walker) for each, walker in zip(fields, walkers)]
        gatherers = [Gatherer(*each) for each in fields]
        again = [answers(gatherer, walker) for gatherer, walker in reversed(list(zip(gatherers, walkers)))]
        self.assertEqual(again[::-1], first)
        self.assertEqual([answers(gatherer, walker) for gatherer, walker in zip(gatherers, walkers)], first)


if __name__ == "__main__":
    unittest.main()
