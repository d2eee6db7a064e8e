import random
import re
import unittest

from helper import copier_rules, reverser_rules
from twowaypen.alike import parted
from twowaypen.back import walker_of
from twowaypen.behind import behind, chained, made
from twowaypen.desk import Desk
from twowaypen.errors import BadRow, BadRule, Copied, NoName, NoRow, NoText, NoWayBack, PenError, TooMany
from twowaypen.gatherers import Gatherer
from twowaypen.lean import leaner
from twowaypen.reader import read
from twowaypen.shown import shown
from twowaypen.walkers import Walker

COPIER = "walker ab 1/0 < right 0/0 a right 0 a/0 b right 0 b/0 > right 0"
REVERSER = shown(Walker("ab", 3, reverser_rules("ab"))).replace("\n", "/")
ECHO = "gatherer ab 1/begin _/0 a 0 #0.a/0 b 0 #0.b/0 end #0"
# Of this one just 101 states come up.
OF_101 = (
    "walker ab 3/0 < right 2/0 a left 2/0 b right 2/0 > left 0/1 < right 1/1 a right 2/1 b right 0/"
    "2 < right 1/2 a right 1/2 b right 1/2 > right 0"
)
LETTERS = {"one": "a", "two": "ab", "three": "abc", "four": "abcd"}


def new_desk():
    """w, v and u are walkers, g and h gatherers; v has other letters, h can't be gone back."""
    desk = Desk()
    desk.say("keep w " + COPIER)
    desk.say("keep u " + REVERSER)
    desk.say("keep v walker ba 1/0 < right 0/0 a right 0 a/0 b right 0 b/0 > right 0")
    desk.say("keep g " + ECHO)
    desk.say("made h u")
    desk.say("keep many " + OF_101)
    return desk


def all_kept(desk):
    return [desk.say("show " + name) for name in ("w", "u", "v", "g", "h", "many")]


class Refused(unittest.TestCase):
    def setUp(self):
        self.desk = new_desk()

    def assert_refused(self, error, *rows, **fields):
        """Refused with just this error and these fields; and nothing is changed by it."""
        before = all_kept(self.desk)
        for row in rows:
            with self.assertRaises(PenError, msg=row) as caught:
                self.desk.say(row)
            self.assertIs(type(caught.exception), error, row)
            self.assertEqual(vars(caught.exception), fields, row)
            self.assertEqual(all_kept(self.desk), before, row)
        for name in ("n", "new", "x"):
            with self.assertRaises(NoName):
                self.desk.say("show " + name)

    def test_no_text(self):
        self.assert_refused(NoRow, None, 0, 1, True, False, [], ["show", "w"], ("drop", "w"), b"show w", {}, Desk())

    def test_other_words(self):
        self.assert_refused(NoRow, "", " ", "  ", "x", "kept w", "Show w", "SHOW w", "show\tw", "showw", "w", "say w")
        self.assert_refused(NoRow, " show w", "  show w", "chained n w u", "papers g", "read w", "walk w a")
        self.assert_refused(NoRow, "show\nw", "\nshow w", "echo n ab", "goes w", "keep\n", "size\n w")

    def test_too_few_words(self):
        self.assert_refused(NoRow, "keep", "drop", "show", "run", "made", "behind", "back", "leaner", "size", "parted")
        self.assert_refused(NoRow, "keep n", "keep ", "run w", "run ", "made n", "made ", "back n", "leaner n")
        self.assert_refused(NoRow, "behind n", "behind n w", "behind n ", "parted w", "parted w u", "parted w ")

    def test_too_many_words(self):
        self.assert_refused(NoRow, "drop w w", "show w w", "size w w", "run w a b", "made n w w", "back n g g")
        self.assert_refused(NoRow, "leaner n g g", "behind n g w w", "parted w u 1 1", "parted w u u 1")

    def test_two_blanks_and_a_blank_at_the_end_are_a_word_too_many(self):
        self.assert_refused(NoRow, "drop w ", "drop  w", "show w ", "show  w", "size w ", "size  w", "drop  ", "show  ")
        self.assert_refused(NoRow, "run w a ", "run w  a", "run  w a", "run w  ", "run   ")
        self.assert_refused(NoRow, "made n w ", "made  n w", "made n  w", "back n g ", "back  n g", "back n  g")
        self.assert_refused(NoRow, "leaner n g ", "leaner  n g", "behind n g w ", "behind n  g w", "behind n g  w")
        self.assert_refused(NoRow, "parted w u 1 ", "parted  w u 1", "parted w  u 1", "parted w u  1")

    def test_two_blanks_and_a_blank_at_the_end_are_no_name(self):
        self.assert_refused(NoName, "drop ", "show ", "size ", "run  ", "run  a", "made  w", "made n ", "made  ")
        self.assert_refused(NoName, "back  g", "back n ", "leaner  g", "leaner n ", "behind  g w", "behind n  w")
        self.assert_refused(NoName, "behind n g ", "behind   ", "parted  u 1", "parted w  1", "parted   1")
        self.assert_refused(NoName, "keep  " + COPIER, "keep  ", "keep   ")

    def test_most_is_one_figure(self):
        for most in ("", "10", "00", "01", "x", "-1", "+1", "1.", "a", "\u0661", "\u00b2", "1\n", "<"):
            self.assert_refused(NoRow, f"parted w u {most}", f"parted w w {most}", f"parted A x {most}")

    def test_no_name(self):
        for name in ("abcdefghi", "A", "aB", "a1", "1", "a_", "_", "\u00e9", "a\n", "a\t", "a/b", "<", "a" * 300):
            self.assert_refused(NoName, f"keep {name} {COPIER}", f"drop {name}", f"show {name}", f"size {name}")
            self.assert_refused(NoName, f"run {name} a", f"run {name} ", f"made {name} w", f"made n {name}")
            self.assert_refused(NoName, f"back {name} g", f"back n {name}", f"leaner {name} g", f"leaner n {name}")
            self.assert_refused(NoName, f"behind {name} g w", f"behind n {name} w", f"behind n g {name}")
            self.assert_refused(NoName, f"parted {name} w 1", f"parted w {name} 1", f"parted {name} {name} 1")

    def test_a_name_by_which_nothing_is_kept(self):
        self.assert_refused(NoName, "drop x", "show x", "size x", "run x a", "run x ", "made n x", "made x x")
        self.assert_refused(NoName, "back n x", "leaner n x", "behind n x w", "behind n g x", "behind n w x")
        self.assert_refused(NoName, "parted x w 1", "parted w x 1", "parted x x 1", "show ww", "run walker a")

    def test_a_walker_where_a_gatherer_is_needed(self):
        self.assert_refused(NoRow, "back n w", "leaner n w", "back w w", "leaner u u")

    def test_a_gatherer_where_a_walker_is_needed(self):
        self.assert_refused(NoRow, "made n g", "made g g", "behind n g g", "behind n w h", "behind g g g")

    def test_a_text_with_others_than_the_letters(self):
        for text in ("c", "abc", "cab", "0", "A", "a<", ">", "a\n", "\u00e9", "a/b", "#0", "_"):
            self.assert_refused(NoRow, f"run w {text}", f"run g {text}", f"run u {text}")

    def test_letters_that_are_not_equal(self):
        self.assert_refused(NoRow, "parted w v 1", "parted v w 1", "parted g v 0", "parted v h 8")

    def test_most_beyond_the_bounds(self):
        self.assert_refused(NoRow, "parted w u 9", "parted w w 9", "parted w g 9", "parted w v 9")
        for name, letters in LETTERS.items():
            self.desk.say(f"keep {name} {shown(Walker(letters, 1, copier_rules(letters)))}".replace("\n", "/"))
        self.assert_refused(NoRow, "parted four four 6", "parted four four 9", "parted one one 9")
        self.assert_refused(NoRow, "parted three three 8", "parted three three 9", "parted two two 9")
        for row in ("parted four four 5", "parted three three 7", "parted two two 8", "parted one one 8"):
            self.assertEqual(self.desk.say(row), "none")

    def test_what_keep_refuses(self):
        self.assert_refused(NoText, "keep n ", "keep n x", "keep n walker", "keep n walker ab 0", "keep w ", line=1)
        self.assert_refused(NoText, "keep n  " + COPIER, f"keep n {COPIER} ".replace("/", " "), line=1)
        self.assert_refused(NoText, "keep n walker ab 1/", "keep n gatherer ab 1", f"keep w {COPIER[:14]} ", line=2)
        self.assert_refused(NoText, COPIER.replace("walker", "keep n walker") + "/0 a right 0", line=6)
        self.assert_refused(NoText, COPIER.replace("walker", "keep n walker") + " ", line=5)
        self.assert_refused(BadRule, "keep n walker ab 1/0 a right 0/0 b right 1/0 < left 0", state=0, sign="b")
        self.assert_refused(BadRule, "keep w walker ab 1/0 < left 0", state=0, sign="<")
        self.assert_refused(BadRow, "keep n gatherer ab 0/begin/0 a 0/0 c 0", state=0, letter="c")
        self.assert_refused(BadRow, "keep g gatherer ab 1/begin _/0 end #0/7 end #1", state=7, letter="")
        self.assert_refused(Copied, "keep n gatherer ab 2/begin _ _/3 a 0 #1 #1", state=3, letter="a", box=1)
        self.assert_refused(Copied, "keep g gatherer ab 1/begin _/0 end #0.#0", state=0, letter="", box=0)

    def test_a_line_feed_parts_no_rows(self):
        text = COPIER.replace("/", "\n")
        self.assert_refused(NoText, "keep n " + text, "keep n \n" + COPIER, "keep n walker ab 1\n", line=1)
        self.assert_refused(NoText, "keep n walker ab 1/0 < right 0\n0 a right 0", line=2)
        self.assert_refused(NoText, "keep n " + COPIER + "\n", line=5)

    def test_too_many(self):
        self.assert_refused(TooMany, "made n many", "made many many", "behind n many w", "behind n w many", most=100)
        rows = "/".join(f"{state} a {state + 1}" for state in range(100))
        self.desk.say(f"keep line gatherer ab 0/begin/{rows}/100 end a")
        self.assert_refused(TooMany, "behind n line w", "behind line line w", most=100)

    def test_no_way_back(self):
        self.assert_refused(NoWayBack, "back n h", "back h h", letter="a", state=2)
        self.desk.say("keep line gatherer ba 0/begin/0 a 1/1 a 1/0 b 7/1 b 7/5 b 3/6 b 3")
        self.assert_refused(NoWayBack, "back n line", letter="b", state=3)

    def test_a_row_that_is_none_comes_ahead_of_names(self):
        self.assert_refused(NoRow, "drop X x", "show 1 2", "run X", "made X", "behind X Y", "parted X Y z", "keep X")
        self.assert_refused(NoRow, "parted x y 10", "run X a b", "size X Y", "kept X", "back X", "leaner X Y Z")

    def test_names_come_ahead_of_kinds_and_texts(self):
        self.assert_refused(NoName, "back X w", "made X g", "leaner X w", "behind X g g", "behind n x g", "run x c")
        self.assert_refused(NoName, "run X <", "parted v x 9", "parted x w 9")

    def test_names_come_ahead_of_what_the_stages_refuse(self):
        self.assert_refused(NoName, "keep X x", "keep X ", "keep  x", "keep abcdefghi walker ab 1/0 < left 0")
        self.assert_refused(NoName, "behind X many w", "behind n many x", "made X many", "back X h")

    def test_kinds_come_ahead_of_what_the_stages_refuse(self):
        self.assert_refused(NoRow, "behind n many g", "behind n many h", "behind many many g")

    def test_nothing_is_changed_in_a_desk_that_keeps_nothing(self):
        desk = Desk()
        for row in ("show a", "drop a", "made a a", "keep a x", "keep A " + COPIER, "x", "", None, "parted a a 1"):
            with self.assertRaises(PenError):
                desk.say(row)
        self.assertEqual(desk.say("keep a " + COPIER), "ok")
        self.assertEqual(desk.say("show a"), COPIER)


class PlainDesk:
    """The same, told by a pattern for each row. Of names only those of the patterns' groups are looked up."""

    ROWS = {
        "keep": ("n", r"keep ([^ ]*) (.*)"), "drop": ("k", r"drop ([^ ]*)"), "show": ("k", r"show ([^ ]*)"),
        "run": ("k", r"run ([^ ]*) ([^ ]*)"), "made": ("nk", r"made ([^ ]*) ([^ ]*)"),
        "behind": ("nkk", r"behind ([^ ]*) ([^ ]*) ([^ ]*)"), "back": ("nk", r"back ([^ ]*) ([^ ]*)"),
        "leaner": ("nk", r"leaner ([^ ]*) ([^ ]*)"), "size": ("k", r"size ([^ ]*)"),
        "parted": ("kk", r"parted ([^ ]*) ([^ ]*) ([0-9])"),
    }

    def __init__(self):
        self.writers = {}

    def say(self, row):
        for word, (needs, pattern) in self.ROWS.items():
            found = re.fullmatch(pattern, row, re.DOTALL)
            if found:
                for need, name in zip(needs, found.groups()):
                    if not re.fullmatch("[a-z]{1,8}", name) or (need == "k" and name not in self.writers):
                        raise NoName()
                return self.answer(word, list(found.groups()), [self.writers.get(name) for name in found.groups()])
        raise NoRow()

    def answer(self, word, names, writers):
        walkers = [isinstance(writer, Walker) for writer in writers]
        wrong = {
            "run": lambda: not set(names[1]) <= set(writers[0].letters),
            "made": lambda: not walkers[1], "back": lambda: walkers[1], "leaner": lambda: walkers[1],
            "behind": lambda: not walkers[2],
            "parted": lambda: writers[0].letters != writers[1].letters or int(names[2]) > 8
            or len(writers[0].letters) ** int(names[2]) > 3000,
        }
        if word in wrong and wrong[word]():
            raise NoRow()
        if word in ("show", "size", "run", "parted"):
            return self.told(word, names, *writers[:2])
        news = {
            "keep": lambda: read(names[1].replace("/", "\n")), "made": lambda: made(writers[1]),
            "back": lambda: walker_of(writers[1]), "leaner": lambda: leaner(writers[1]),
            "behind": lambda: chained(writers[1:]) if walkers[1] else behind(*writers[1:]),
        }
        if word == "drop":
            del self.writers[names[0]]
        else:
            self.writers[names[0]] = news[word]()
        return "ok"

    def told(self, word, names, one, other=None):
        if word == "show":
            return shown(one).replace("\n", "/")
        if word == "size":
            return f"walker {one.states}" if isinstance(one, Walker) else f"gatherer {one.boxes}"
        if word == "run":
            return " ".join(one.outcome(names[1])) if one.outcome(names[1])[0] == "told" else one.outcome(names[1])[0]
        text = parted(one, other, int(names[2]))
        return "none" if text is None else "on " + text


ROWS = [
    COPIER, REVERSER, ECHO, OF_101, "walker a 1", "walker ab 1/0 < left 0", "gatherer ab 1", "x", "",
    "walker ba 2/0 < right 1/1 b right 1/1 a left 1/1 > right 0",
    "gatherer ab 2/begin x _/0 a 1 #1 #0.a/1 a 0 #0 #1/0 b 0 b.#1 #0/1 end #0.#1/0 end #1.y",
    "gatherer ab 1/begin _/0 end #0.#0", "gatherer ba 0/begin/0 a 1/1 b 0/0 end x/1 end !round",
    "gatherer a 0/begin/0 a 0/1 a 0", "gatherer a 1/begin _/0 end #1",
]
FREE = [
    "", "a", "ab", "aba", "c", "0", "5", "8", "9", "10", "x", "yy", "abcdefgh", "abcdefghi", "A", "a1", "keep", "w",
    "g", "n", "-",
]
NAMES = ["w", "g", "n", "yy", "abcdefgh"]


def drawn_row(draw):
    word = draw.choice(["keep", "keep", *PlainDesk.ROWS])
    needs = PlainDesk.ROWS[word][0]
    words = [word] + [draw.choice(NAMES if draw.random() < 0.93 else FREE) for _ in needs]
    if word in ("run", "parted"):
        words.append(draw.choice(["", "a", "ab", "aba", "0", "3", "8"] if draw.random() < 0.8 else FREE))
    if word == "keep":
        words.append(draw.choice(ROWS))
    if draw.random() < 0.08:
        words.insert(draw.randint(0, len(words)), draw.choice(FREE))
    if draw.random() < 0.05:
        del words[draw.randrange(len(words))]
    return " ".join(words)


class DrawnRows(unittest.TestCase):
    def said(self, desk, row):
        try:
            return desk.say(row)
        except PenError as error:
            return type(error).__name__, vars(error)

    def test_drawn_rows(self):
        draw = random.Random(9)
        seen = {}
        for _ in range(80):
            desk, plain = Desk(), PlainDesk()
            for _ in range(60):
                row = drawn_row(draw)
                answer = self.said(plain, row)
                self.assertEqual(self.said(desk, row), answer, row)
                for name in NAMES:
                    self.assertEqual(self.said(desk, "show " + name), self.said(plain, "show " + name), row)
                kind = (row.split(" ")[0], answer[0]) if isinstance(answer, tuple) else (row.split(" ")[0], "said")
                seen[kind] = seen.get(kind, 0) + 1
        for word in PlainDesk.ROWS:
            for end in ("said", "NoRow", "NoName"):
                self.assertGreater(seen.get((word, end), 0), 2, (word, end))
        for error in ("NoText", "BadRule", "BadRow", "Copied"):
            self.assertGreater(seen[("keep", error)], 2)
        self.assertGreater(seen[("made", "TooMany")], 2)
        self.assertGreater(seen[("back", "NoWayBack")], 2)


if __name__ == "__main__":
    unittest.main()
