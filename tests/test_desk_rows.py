import unittest

from helper import (
    copier_rules, drawn_gatherers, drawn_texts, drawn_walkers, echo_fields, mirror_fields, reverser_rules, thrice_rules,
)
from twowaypen.back import walker_of
from twowaypen.behind import behind, chained, made
from twowaypen.desk import Desk
from twowaypen.errors import NoName
from twowaypen.gatherers import Gatherer
from twowaypen.lean import leaner
from twowaypen.reader import read
from twowaypen.shown import shown
from twowaypen.walkers import Walker

COPIER = "walker ab 1/0 < right 0/0 a right 0 a/0 b right 0 b/0 > right 0"
ECHO = "gatherer ab 1/begin _/0 a 0 #0.a/0 b 0 #0.b/0 end #0"


def in_a_row(writer):
    return shown(writer).replace("\n", "/")


def desk_with(**writers):
    desk = Desk()
    for name, writer in writers.items():
        desk.say(f"keep {name} {in_a_row(writer)}")
    return desk


class Rows(unittest.TestCase):
    def assert_says(self, desk, row, answer):
        told = desk.say(row)
        self.assertIs(type(told), str)
        self.assertEqual(told, answer, row)

    def test_keep_and_show(self):
        desk = Desk()
        self.assert_says(desk, "keep copier " + COPIER, "ok")
        self.assert_says(desk, "keep echo " + ECHO, "ok")
        self.assert_says(desk, "show copier", COPIER)
        self.assert_says(desk, "show echo", ECHO)

    def test_shown_is_in_the_order_of_16(self):
        desk = Desk()
        self.assert_says(desk, "keep a walker ba 2/1 > right 0/0 a left 1 x/0 b right 0/0 < right 1", "ok")
        self.assert_says(desk, "show a", "walker ba 2/0 < right 1/0 b right 0/0 a left 1 x/1 > right 0")
        self.assert_says(desk, "keep a gatherer ba 1/begin x/5 end !stuck/0 a 5 #0/0 end #0/0 b 0 _", "ok")
        self.assert_says(desk, "show a", "gatherer ba 1/begin x/0 b 0 _/0 a 5 #0/0 end #0/5 end !stuck")

    def test_a_writer_without_rules(self):
        desk = Desk()
        self.assert_says(desk, "keep a walker ab 4", "ok")
        self.assert_says(desk, "show a", "walker ab 4")
        self.assert_says(desk, "keep b gatherer ab 0/begin", "ok")
        self.assert_says(desk, "show b", "gatherer ab 0/begin")

    def test_drop(self):
        desk = desk_with(a=Walker("ab", 1, {}), b=Walker("ab", 2, {}))
        self.assert_says(desk, "drop a", "ok")
        for row in ("show a", "drop a", "run a ", "size a"):
            with self.assertRaises(NoName):
                desk.say(row)
        self.assert_says(desk, "show b", "walker ab 2")
        self.assert_says(desk, "keep a walker ab 3", "ok")
        self.assert_says(desk, "show a", "walker ab 3")

    def test_run(self):
        desk = desk_with(rev=Walker("ab", 3, reverser_rules("ab")), mirror=Gatherer(*mirror_fields("ab")))
        self.assert_says(desk, "run rev aab", "told baa")
        self.assert_says(desk, "run mirror ab", "told 8ab00ba9")
        self.assert_says(desk, "run mirror ", "told 8009")
        desk.say("keep s walker ab 2/0 < right 1/1 b right 1/1 a left 1/1 > right 0")
        self.assert_says(desk, "run s a", "stuck")
        self.assert_says(desk, "run s bb", "told ")
        self.assert_says(desk, "run s ba", "round")
        desk.say("keep g gatherer ab 0/begin/0 a 1/1 a 2/2 a 3/0 end r/1 end !stuck/2 end !round")
        self.assert_says(desk, "run g ", "told r")
        self.assert_says(desk, "run g a", "stuck")
        self.assert_says(desk, "run g aa", "round")
        self.assert_says(desk, "run g aaa", "stuck")
        self.assert_says(desk, "run g b", "stuck")

    def test_run_where_nothing_was_written(self):
        desk = desk_with(rev=Walker("ab", 3, reverser_rules("ab")), empty=Gatherer("a", 0, (), {}, {0: ()}))
        self.assert_says(desk, "run rev ", "told ")
        self.assert_says(desk, "run empty ", "told ")

    def test_run_long_texts(self):
        desk = desk_with(rev=Walker("ab", 3, reverser_rules("ab")))
        self.assert_says(desk, "run rev " + "aab" * 100, "told " + "baa" * 100)

    def test_made(self):
        reverser = Walker("ab", 3, reverser_rules("ab"))
        desk = desk_with(rev=reverser)
        self.assert_says(desk, "made g rev", "ok")
        self.assert_says(desk, "show g", in_a_row(made(reverser)))
        self.assert_says(desk, "show rev", in_a_row(reverser))
        self.assert_says(desk, "run g aab", "told baa")

    def test_behind_a_gatherer(self):
        mirror, walker = Gatherer(*mirror_fields("a")), Walker("a089", 3, reverser_rules("a089"))
        desk = desk_with(m=mirror, w=walker)
        self.assert_says(desk, "behind n m w", "ok")
        self.assert_says(desk, "show n", in_a_row(behind(mirror, walker)))
        self.assert_says(desk, "run n a", "told 9a00a8")
        self.assert_says(desk, "show m", in_a_row(mirror))
        self.assert_says(desk, "show w", in_a_row(walker))

    def test_behind_asks_for_no_equal_letters(self):
        desk = desk_with(m=Gatherer(*mirror_fields("a")), w=Walker("xy", 1, copier_rules("xy")))
        self.assert_says(desk, "behind n m w", "ok")
        self.assert_says(desk, "run n a", "stuck")

    def test_behind_a_walker(self):
        thrice, reverser = Walker("ab", 3, thrice_rules("ab")), Walker("ab01", 3, reverser_rules("ab01"))
        desk = desk_with(t=thrice, r=reverser)
        self.assert_says(desk, "behind n t r", "ok")
        self.assert_says(desk, "show n", in_a_row(chained([thrice, reverser])))
        self.assert_says(desk, "show t", in_a_row(thrice))
        self.assert_says(desk, "behind n r r", "ok")
        self.assert_says(desk, "run n a0b1", "told a0b1")
        self.assert_says(desk, "behind n n r", "ok")
        self.assert_says(desk, "run n a0b1", "told 1b0a")

    def test_back(self):
        mirror = Gatherer(*mirror_fields("ab"))
        desk = desk_with(m=mirror)
        self.assert_says(desk, "back w m", "ok")
        self.assert_says(desk, "show w", in_a_row(walker_of(mirror)))
        self.assert_says(desk, "run w ab", "told 8ab00ba9")
        self.assert_says(desk, "show m", in_a_row(mirror))
        self.assertIsInstance(read(desk.say("show w").replace("/", "\n")), Walker)

    def test_leaner(self):
        gatherer = made(Walker("ab", 3, reverser_rules("ab")))
        desk = desk_with(g=gatherer)
        self.assert_says(desk, "leaner n g", "ok")
        self.assert_says(desk, "show n", in_a_row(leaner(gatherer)))
        self.assert_says(desk, "size g", "gatherer 6")
        self.assert_says(desk, "size n", "gatherer 3")

    def test_size(self):
        eight, none = Gatherer("abc", 8, ("",) * 8, {}, {}), Gatherer("a", 0, (), {}, {})
        desk = desk_with(w=Walker("abc", 3, {}), g=eight, n=none)
        self.assert_says(desk, "size w", "walker 3")
        self.assert_says(desk, "size g", "gatherer 8")
        self.assert_says(desk, "size n", "gatherer 0")
        gatherer = chained([Walker("ab", 3, thrice_rules("ab")), Walker("ab0123", 3, thrice_rules("ab0123"))])
        desk = desk_with(g=gatherer)
        self.assert_says(desk, "size g", f"gatherer {gatherer.boxes}")
        self.assertGreater(gatherer.boxes, 9)
        walker = walker_of(Gatherer(*mirror_fields("ab")))
        self.assert_says(desk_with(w=walker), "size w", f"walker {walker.states}")

    def test_parted(self):
        copier, reverser = Walker("ab", 1, copier_rules("ab")), Walker("ab", 3, reverser_rules("ab"))
        desk = desk_with(c=copier, r=reverser, e=Gatherer(*echo_fields("ab")), m=Gatherer(*mirror_fields("ab")))
        self.assert_says(desk, "parted c r 8", "on ab")
        self.assert_says(desk, "parted r c 2", "on ab")
        self.assert_says(desk, "parted c r 1", "none")
        self.assert_says(desk, "parted c e 8", "none")
        self.assert_says(desk, "parted e c 0", "none")
        self.assert_says(desk, "parted c c 8", "none")
        self.assert_says(desk, "parted m e 0", "on ")
        self.assert_says(desk, "parted e m 8", "on ")

    def test_parted_up_to_the_bounds(self):
        for letters, most in (("a", 8), ("ab", 8), ("abc", 7), ("abcd", 5)):
            copier = Walker(letters, 1, copier_rules(letters))
            desk = desk_with(one=copier, other=copier)
            for number in range(most + 1):
                self.assert_says(desk, f"parted one other {number}", "none")

    def test_new_that_is_the_name_itself(self):
        reverser = Walker("ab", 3, reverser_rules("ab"))
        desk = desk_with(a=reverser, r=reverser)
        self.assert_says(desk, "made a a", "ok")
        self.assert_says(desk, "show a", in_a_row(made(reverser)))
        self.assert_says(desk, "leaner a a", "ok")
        self.assert_says(desk, "show a", in_a_row(leaner(made(reverser))))
        self.assert_says(desk, "behind a a r", "ok")
        self.assert_says(desk, "run a aab", "told aab")
        self.assert_says(desk, "behind r r r", "ok")
        self.assert_says(desk, "show r", in_a_row(chained([reverser, reverser])))
        desk.say("keep m " + in_a_row(Gatherer(*mirror_fields("ab"))))
        self.assert_says(desk, "back m m", "ok")
        self.assert_says(desk, "run m ab", "told 8ab00ba9")
        self.assertEqual(desk.say("size m").split(" ")[0], "walker")

    def test_new_that_is_the_walker_behind(self):
        reverser, copier = Walker("ab", 3, reverser_rules("ab")), Walker("ab", 1, copier_rules("ab"))
        desk = desk_with(c=copier, r=reverser)
        self.assert_says(desk, "behind r c r", "ok")
        self.assert_says(desk, "show r", in_a_row(chained([copier, reverser])))

    def test_a_name_kept_anew(self):
        desk = desk_with(a=Walker("ab", 1, {}), b=Walker("ab", 2, {}))
        self.assert_says(desk, "keep a gatherer x 0/begin", "ok")
        self.assert_says(desk, "show a", "gatherer x 0/begin")
        self.assert_says(desk, "made a b", "ok")
        self.assert_says(desk, "show a", in_a_row(made(Walker("ab", 2, {}))))
        self.assert_says(desk, "leaner b a", "ok")
        self.assert_says(desk, "show b", in_a_row(leaner(made(Walker("ab", 2, {})))))

    def test_what_was_made_stays_as_its_sources_go(self):
        reverser = Walker("ab", 3, reverser_rules("ab"))
        desk = desk_with(r=reverser)
        desk.say("made g r")
        desk.say("behind h g r")
        desk.say("keep r walker ab 1")
        desk.say("drop g")
        self.assert_says(desk, "show h", in_a_row(chained([reverser, reverser])))
        self.assert_says(desk, "run h aab", "told aab")

    def test_names(self):
        desk = Desk()
        for name in ("a", "z", "abcdefgh", "zzzzzzzz", "keep", "walker", "none"):
            self.assert_says(desk, f"keep {name} {COPIER}", "ok")
        for name in ("a", "z", "abcdefgh", "zzzzzzzz", "keep", "walker", "none"):
            self.assert_says(desk, f"show {name}", COPIER)
            self.assert_says(desk, f"made {name} {name}", "ok")
            self.assert_says(desk, f"size {name}", "gatherer 2")

    def test_two_desks_know_nothing_of_each_other(self):
        one, other = Desk(), Desk()
        one.say("keep a walker ab 1")
        with self.assertRaises(NoName):
            other.say("show a")
        other.say("keep a walker ab 2")
        other.say("keep b walker ab 3")
        self.assert_says(one, "show a", "walker ab 1")
        with self.assertRaises(NoName):
            one.say("show b")
        one.say("drop a")
        self.assert_says(other, "show a", "walker ab 2")

    def test_the_same_question_has_the_same_answer(self):
        desk = desk_with(r=Walker("ab", 3, reverser_rules("ab")), c=Walker("ab", 1, copier_rules("ab")))
        for _ in range(3):
            for row, answer in (("run r ab", "told ba"), ("size r", "walker 3"), ("parted r c 5", "on ab")):
                self.assert_says(desk, row, answer)
            self.assert_says(desk, "made g r", "ok")
            self.assert_says(desk, "show g", in_a_row(made(Walker("ab", 3, reverser_rules("ab")))))

    def test_drawn_writers(self):
        for fields in drawn_walkers(40):
            walker = Walker(*fields)
            desk = desk_with(w=walker)
            self.assert_says(desk, "show w", in_a_row(walker))
            for text in drawn_texts(fields[0], [0, 1, 5, 30]):
                word, written = walker.outcome(text)
                self.assert_says(desk, "run w " + text, "told " + written if word == "told" else word)
        for fields in drawn_gatherers(40):
            gatherer = Gatherer(*fields)
            desk = desk_with(g=gatherer)
            self.assert_says(desk, "show g", in_a_row(gatherer))
            self.assert_says(desk, "size g", f"gatherer {fields[1]}")
            for text in drawn_texts(fields[0], [0, 1, 5, 30]):
                word, written = gatherer.outcome(text)
                self.assert_says(desk, "run g " + text, "told " + written if word == "told" else word)

    def test_by_the_name_of_the_argument(self):
        self.assertEqual(Desk().say(row="keep a " + COPIER), "ok")


if __name__ == "__main__":
    unittest.main()
