import random
import unittest

from helper import GATHERER_TEXT, WALKER_TEXT, drawn_gatherers, drawn_walkers, first_wrong
from twowaypen.errors import BadRow, BadRule, Copied, NoText, PenError
from twowaypen.gatherers import Gatherer
from twowaypen.reader import read
from twowaypen.shown import shown
from twowaypen.walkers import Walker

NO_NUMBERS = ("", "00", "01", "007", "0000", "10000", "12345", "99999", "-1", "+1", "1a", "a", "a1", "1.0", "1_0",
              "#1", "_", "<", "0x1", "\u0661", "\u00b2", "\uff11", "1\t", "\t1", "1\r", "1\u00a0")
NO_TEXTS = ("A", "aB", "-", "a-b", "_", "a_", "<", "a>", "#", "!", "a!", ".", "a.b", "\u00e4", "a\u00df", "\u0663",
            "a\t", "a\r", "a\u00a0b", "\u2028", "a\x0c", "'", "a,b")
NO_LETTERS = NO_TEXTS + ("aa", "aba", "0ab0", "abcde", "abcdefgh", "01234", "<a", "a>", "")
NO_ROWS = tuple(text for text in NO_TEXTS if text != "_") + (
    "", "__", "_.a", "a._", "_._", "#0._", "_.#0", "a.b", "ab.c.#0", "#0.a.b", "#0.a.b.#1", ".a", "a.", "..", "#0.",
    ".#0", "#0..#1", "a..#0", "#0#1", "#0a", "a#0", "#", "#a", "#.a", "##0", "# 0", "#-1", "#00", "#01", "#10000",
    "#1a", "#_", "!stuck.a", "a.!stuck", "#\u0661", "#0.\u00e4",
)


class Refused(unittest.TestCase):
    def line(self, text):
        with self.assertRaises(NoText, msg=repr(text)) as taken:
            read(text)
        return taken.exception.line

    def assert_lines(self, texts, line):
        for text in texts:
            self.assertEqual(self.line(text), line, repr(text))


class WrongRows(Refused):
    def test_no_writer_at_all(self):
        self.assert_lines((
            "", " ", "\n", "\n\n", "walker", "gatherer", "writer a 1", "Walker a 1", "walkers a 1", "a", "0 a left 0",
            "begin", "\nwalker a 1", "walker\na 1",
        ), 1)

    def test_heads_with_words_more_or_fewer(self):
        for kind in ("walker", "gatherer"):
            self.assert_lines((
                f"{kind} a", f"{kind} 1", f"{kind} a 1 ", f"{kind} a 1 1", f" {kind} a 1", f"{kind}  a 1",
                f"{kind} a  1", f"{kind} a ", f"{kind} a b 1", f"{kind}\ta 1", f"{kind} a 1\r",
                f"{kind} a 1 \nbegin _", f"{kind} a 1\x0bbegin _", f"{kind} a 1\u2028begin _",
            ), 1)

    def test_letters(self):
        for letters in NO_LETTERS:
            self.assert_lines((f"walker {letters} 1", f"gatherer {letters} 0\nbegin"), 1)

    def test_counts(self):
        for number in NO_NUMBERS:
            self.assert_lines((f"walker a {number}", f"gatherer a {number}\nbegin _"), 1)
        self.assert_lines(("walker a 0", "walker a 0\n0 a left 0"), 1)
        self.assertEqual(read("gatherer a 0\nbegin").boxes, 0)

    def test_each_sign_by_itself(self):
        figures, signs = "0123456789", "abcdefghijklmnopqrstuvwxyz0123456789"
        for other in [chr(code) for code in range(400) if chr(code) not in " \n"]:
            number, piece = f"walker a 9999\n1{other} a left 0", f"walker a 1\n0 a left 0 a{other}"
            sign, letter = f"walker {other} 1", f"gatherer a 0\nbegin\n0 {other} 0"
            self.assertEqual(first_wrong(number), None if other in figures else 2)
            self.assertEqual(first_wrong(letter), None if other in signs else 3)
            if other not in figures:
                self.assert_lines((number,), 2)
            if other not in signs:
                self.assert_lines((sign,), 1)
                self.assert_lines((piece,), 2)
                self.assert_lines((letter,), 3)
            else:
                self.assertEqual(read(sign).letters, other)
                self.assertEqual(read(piece).rules[(0, "a")], ("a" + other, "left", 0))

    def test_a_text_that_ends_ahead_of_begin(self):
        for boxes in (0, 1, 8, 9999):
            self.assert_lines((f"gatherer ab {boxes}",), 2)

    def test_begins(self):
        self.assert_lines((
            "gatherer a 1\n", "gatherer a 1\nbegin", "gatherer a 1\nbegin ", "gatherer a 1\nbegin _ _",
            "gatherer a 1\nbegin _ ", "gatherer a 1\nbegin  _", "gatherer a 1\n begin _", "gatherer a 1\nBegin _",
            "gatherer a 1\nbegins _", "gatherer a 1\n_ begin", "gatherer a 1\n0 end _\nbegin _",
            "gatherer a 1\n0 a 0 _\nbegin _", "gatherer a 1\n\nbegin _", "gatherer a 0\nbegin ",
            "gatherer a 0\nbegin _", "gatherer a 0\n0 end _", "gatherer a 0\nend", "gatherer a 2\nbegin _",
            "gatherer a 2\nbegin _ _ _", "gatherer a 1\nbegin #0", "gatherer a 1\nbegin __",
        ), 2)
        for text in NO_TEXTS:
            if text != "_":
                self.assert_lines((f"gatherer a 1\nbegin {text}", f"gatherer a 2\nbegin _ {text}"), 2)

    def test_walker_rules_with_words_more_or_fewer(self):
        for row in ("", " ", "0", "0 a", "0 a left", "0 a left 0 x y", "0 a left 0 ", "0 a left 0 x ", " 0 a left 0",
                    "0  a left 0", "0 a  left 0", "0 a left  0", "0 a left 0  x", "0 a left 0 x\t", "0 a left 0\r",
                    "0 left 0", "0 a 0", "a left 0", "0 a left 0 x 0 a left 0", "0 end _", "begin", "walker a 1"):
            self.assert_lines((f"walker a 1\n{row}", f"walker a 1\n{row}\n0 > right 0"), 2)
            self.assert_lines((f"walker a 1\n0 > right 0\n{row}",), 3)

    def test_walker_rules_of_other_words(self):
        for number in NO_NUMBERS:
            self.assert_lines((f"walker a 1\n{number} a left 0", f"walker a 1\n0 a left {number}"), 2)
        for sign in ("", "ab", "<>", "<<", "aa", "_", "A", "#", "!", "-", ".", "\u00e4", "end", "\t", "\u0661"):
            self.assert_lines((f"walker ab 1\n0 {sign} right 0",), 2)
        for move in ("", "Left", "LEFT", "lef", "lefts", "leftright", "up", "l", "_", "0", "stay", "right,"):
            self.assert_lines((f"walker ab 1\n0 a {move} 0",), 2)
        for piece in (*NO_TEXTS, "", "#0", "x.#0", "!stuck"):
            self.assert_lines((f"walker ab 1\n0 a left 0 {piece}",), 2)

    def test_gatherer_rules_with_words_more_or_fewer(self):
        for row in ("", " ", "0", "0 a", "0 a 0", "0 a 0 _", "0 a 0 _ _ _", "0 a 0 _ _ ", "0 a 0 _ ", "0 a 0  _",
                    " 0 a 0 _ _", "0  a 0 _ _", "0 a  0 _ _", "0 a 0 _  _", "0 0 _ _", "a 0 _ _", "0 a 0 _ _\t",
                    "begin _ _", "gatherer a 2", "0 a left 0", "0 a right 0 x"):
            self.assert_lines((f"gatherer a 2\nbegin _ _\n{row}", f"gatherer a 2\nbegin _ _\n{row}\n0 end _"), 3)
            self.assert_lines((f"gatherer a 2\nbegin _ _\n0 end _\n{row}",), 4)
        self.assert_lines((
            "gatherer a 0\nbegin\n0 a 0 ", "gatherer a 0\nbegin\n0 a 0 _", "gatherer a 0\nbegin\n0 a",
        ), 3)

    def test_gatherer_rules_of_other_words(self):
        for number in NO_NUMBERS:
            self.assert_lines((
                f"gatherer a 1\nbegin _\n{number} a 0 _", f"gatherer a 1\nbegin _\n0 a {number} _",
            ), 3)
        for letter in ("", "<", ">", "ab", "aa", "ends", "en", "End", "_", "A", "#", "!", ".", "\u00e4", "\u0661"):
            self.assert_lines((f"gatherer ab 1\nbegin _\n0 {letter} 0 _",), 3)
        for row in NO_ROWS + ("!stuck", "!round"):
            self.assert_lines((f"gatherer a 1\nbegin _\n0 a 0 {row}",), 3)
            self.assert_lines((f"gatherer a 2\nbegin _ _\n1 end _\n0 a 0 _ {row}",), 4)

    def test_ends(self):
        for row in ("0 end", "0 end ", "0 end _ _", "0 end _ ", " 0 end _", "0  end _", "0 end  _", "end", "end _",
                    "0 End _", "0 ends _", "0 end 0 _", "0 end !stuck _", "0 end _\t", "0 end !stuck\r"):
            self.assert_lines((f"gatherer a 1\nbegin _\n{row}", f"gatherer a 1\nbegin _\n{row}\n0 a 0 _"), 3)
        for number in NO_NUMBERS:
            self.assert_lines((f"gatherer a 1\nbegin _\n{number} end _",), 3)
        for word in NO_ROWS + ("!", "!told", "!Stuck", "!stuc", "!stucks", "!!stuck", "!stuckround", "!_", "!#0"):
            self.assert_lines((f"gatherer a 3\nbegin _ _ _\n0 end {word}",), 3)

    def test_a_second_rule_or_end_of_the_same_state_and_sign(self):
        self.assert_lines((
            "walker a 1\n0 a left 0\n0 a left 0", "walker a 1\n0 a left 0\n0 a right 0 x",
            "walker a 1\n0 < right 0\n0 < left 9", "walker a 1\n9 z left 0\n9 z left 0\nfoo",
        ), 3)
        self.assert_lines((
            "gatherer a 1\nbegin _\n0 a 0 _\n0 a 0 _", "gatherer a 1\nbegin _\n0 a 0 _\n0 a 1 #0",
            "gatherer a 1\nbegin _\n0 end _\n0 end _", "gatherer a 1\nbegin _\n7 end !stuck\n7 end #0",
        ), 4)
        self.assert_lines(("gatherer a 1\nbegin _\n7 end _\n7 a 0 _\n8 end _\n8 a 0 _\n7 end _",), 7)
        read("walker ab 2\n0 a left 0\n0 b left 0\n1 a left 0\n1 b left 0")
        read("gatherer ab 0\nbegin\n0 a 0\n0 end _\n1 a 0\n1 end _\n0 b 0")

    def test_line_feeds_at_the_end_or_between(self):
        for text in (WALKER_TEXT, GATHERER_TEXT):
            rows = text.split("\n")
            self.assert_lines((text + "\n", text + "\n\n", text + "\n "), len(rows) + 1)
            for at in range(len(rows)):
                self.assertEqual(self.line("\n".join(rows[:at] + [""] + rows[at:])), at + 1)

    def test_blanks_in_each_row(self):
        for text in (WALKER_TEXT, GATHERER_TEXT):
            rows = text.split("\n")
            for at, row in enumerate(rows):
                wrong = [" " + row, row + " ", row.replace(" ", "  ", 1), row + "\t", row + "\r"]
                for other in wrong:
                    self.assertEqual(self.line("\n".join(rows[:at] + [other] + rows[at + 1:])), at + 1)


class TheFirst(Refused):
    def test_of_several_wrong_rows_the_first(self):
        for text in (WALKER_TEXT, GATHERER_TEXT):
            rows = text.split("\n")
            for at in range(len(rows)):
                for other in range(at, len(rows)):
                    wrong = [row + " " if number in (at, other) else row for number, row in enumerate(rows)]
                    self.assertEqual(self.line("\n".join(wrong)), at + 1)

    def test_a_wrong_row_goes_ahead_of_a_bad_rule(self):
        self.assert_lines(("walker a 1\n5 a left 0\n0 < left 0\n0 z",), 4)
        self.assert_lines(("gatherer a 1\nbegin _\n0 b 0 _\n1 a 0 #9\n2 end #0.#0\n3 end a.b",), 6)
        self.assert_lines(("walker a 1\n5 a left 0\n",), 3)

    def test_changed_texts_beside_patterns(self):
        draw = random.Random(9)
        writers = [Walker(*each) for each in drawn_walkers(120)] + [Gatherer(*each) for each in drawn_gatherers(120)]
        wrong = right = 0
        for writer in writers:
            text = shown(writer)
            for _ in range(25):
                at = draw.choice([draw.randrange(len(text) + 1), draw.randrange(min(40, len(text)))])
                gone = draw.choice([0, 0, 1, 1, 2])
                new = "".join(draw.choices(" \n_.#!<>abz019A", k=draw.choice([0, 1, 1, 2])))
                changed = text[:at] + new + text[at + gone:]
                line = first_wrong(changed)
                if line is not None:
                    wrong += 1
                    self.assertEqual(self.line(changed), line, repr(changed))
                    continue
                right += 1
                try:
                    read(changed)
                except (BadRule, BadRow, Copied):
                    pass
        self.assertGreater(wrong, 2000)
        self.assertGreater(right, 500)


class FormedButBad(unittest.TestCase):
    def refusal(self, text):
        self.assertIsNone(first_wrong(text), text)
        with self.assertRaises(PenError) as taken:
            read(text)
        return type(taken.exception), vars(taken.exception)

    def assert_bad_rule(self, text, state, sign):
        self.assertEqual(self.refusal(text), (BadRule, {"state": state, "sign": sign}))

    def assert_bad_row(self, text, state, letter):
        self.assertEqual(self.refusal(text), (BadRow, {"state": state, "letter": letter}))

    def assert_copied(self, text, state, letter, box):
        self.assertEqual(self.refusal(text), (Copied, {"state": state, "letter": letter, "box": box}))

    def test_walkers(self):
        self.assert_bad_rule("walker ab 2\n2 a left 0", 2, "a")
        self.assert_bad_rule("walker ab 2\n0 a left 9999", 0, "a")
        self.assert_bad_rule("walker ab 2\n0 c left 0", 0, "c")
        self.assert_bad_rule("walker ab 2\n0 9 left 0 x", 0, "9")
        self.assert_bad_rule("walker ab 2\n1 < left 0", 1, "<")

    def test_walkers_by_the_order_of_the_rows(self):
        self.assert_bad_rule("walker ab 2\n1 > left 0\n7 a left 0\n0 < left 0\n0 c left 0", 7, "a")
        self.assert_bad_rule("walker ab 2\n1 > left 0\n0 c left 0\n0 < left 0\n7 a left 0", 0, "c")
        self.assert_bad_rule("walker ab 2\n1 > left 0\n0 < left 0\n0 c left 0\n7 a left 0", 0, "<")

    def test_gatherers(self):
        head = "gatherer ab 2\nbegin _ x\n"
        self.assert_bad_row(head + "0 c 0 _ _", 0, "c")
        self.assert_bad_row(head + "0 a 0 _ #2", 0, "a")
        self.assert_bad_row(head + "5 b 0 #9999.#0 #0", 5, "b")
        self.assert_bad_row(head + "8 end #2", 8, "")
        self.assert_bad_row(head + "8 end #0.x.#2.#0", 8, "")
        self.assert_copied(head + "3 a 0 #0 #0", 3, "a", 0)
        self.assert_copied(head + "3 a 0 #1.x.#1 _", 3, "a", 1)
        self.assert_copied(head + "3 a 0 #1.#0 #0.#1", 3, "a", 0)
        self.assert_copied(head + "9999 end #1.#0.#1", 9999, "", 1)
        self.assert_bad_row("gatherer a 0\nbegin\n0 end #0", 0, "")

    def test_gatherers_by_the_order_of_the_rows_rules_ahead_of_ends(self):
        head = "gatherer ab 2\nbegin _ x\n"
        rows = ["9 end #5", "4 end #1.#1", "7 a 0 #1 #1", "0 b 0 #0 #1", "1 c 0 _ _", "0 end #2", "0 a 3 _ #2"]
        self.assert_copied(head + "\n".join(rows), 7, "a", 1)
        self.assert_bad_row(head + "\n".join(reversed(rows)), 0, "a")
        rows.remove("7 a 0 #1 #1")
        self.assert_bad_row(head + "\n".join(rows), 1, "c")
        rows.remove("1 c 0 _ _")
        self.assert_bad_row(head + "\n".join(rows), 0, "a")
        rows.remove("0 a 3 _ #2")
        self.assert_bad_row(head + "\n".join(rows), 9, "")
        self.assert_bad_row(head + "\n".join(reversed(rows)), 0, "")
        rows.remove("9 end #5")
        self.assert_copied(head + "\n".join(rows), 4, "", 1)
        rows.remove("4 end #1.#1")
        self.assert_bad_row(head + "\n".join(rows), 0, "")
        rows.remove("0 end #2")
        self.assertEqual(read(head + "\n".join(rows)).rules, {(0, "b"): (0, ((0,), (1,)))})


if __name__ == "__main__":
    unittest.main()
