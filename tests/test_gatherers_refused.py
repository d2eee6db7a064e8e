import unittest

from helper import echo_fields, mirror_fields
from twowaypen.errors import BadRow, Copied
from twowaypen.gatherers import Gatherer

BEGINS = ("", "x", "y")
GOOD_RULES = {
    (0, "a"): (1, ((0, "x"), (2, 1), ())),
    (1, "b"): (7, (("x", "y"), (1, "0", 0), (2,))),
    (7, "a"): (0, ((), (), ())),
    (9999, "b"): (7, ((2,), (0,), (1,))),
}
GOOD_ENDS = {0: (2, "z", 0, 1), 1: (), 7: "stuck", 9999: "round", 3: ("x",)}
ROWS = ((0,), (1,), (2,))
BAD_RULES = {
    (2, "c"): (0, ROWS),
    (2, "A"): (0, ROWS),
    (2, ""): (0, ROWS),
    (2, "ab"): (0, ROWS),
    (2, "ba"): (0, ROWS),
    (2, "aa"): (0, ROWS),
    (2, "<"): (0, ROWS),
    (2, ">"): (0, ROWS),
    (-1, "a"): (0, ROWS),
    (-500, "b"): (0, ROWS),
    (2, "a"): (-1, ROWS),
    (3, "a"): (0, ROWS[:2]),
    (4, "a"): (0, ()),
    (5, "a"): (0, (*ROWS, ())),
    (6, "a"): (0, (*ROWS, ("x",), ("y",))),
    (8, "a"): (0, ((0,), (1,), (3,))),
    (9, "a"): (0, ((-1,), (1,), (2,))),
    (10, "a"): (0, ((0,), ("x", 1, -3), (2,))),
    (11, "a"): (0, ((0,), (1, ""), (2,))),
    (12, "a"): (0, (("",), (1,), ())),
    (13, "a"): (0, ((0, "x", 1000), (), ())),
}
BAD_ENDS = {
    -1: (0,),
    -2: "stuck",
    -3: (),
    20: (3,),
    21: (0, -1),
    22: ("x", ""),
    23: ("",),
    24: "told",
    25: "",
    26: "Stuck",
    27: "stuckround",
    28: "roun",
    29: "!stuck",
    30: "a",
}
# The box that is told stands behind the rule, or the end.
COPIED_RULES = {
    (30, "a"): ((0, ((0, 0), (), ())), 0),
    (31, "a"): ((0, ((0,), (1,), (0,))), 0),
    (32, "b"): ((0, ((2, "x", 2), (1,), (0,))), 2),
    (33, "b"): ((0, ((2, 1), (2,), (0, 1))), 1),
    (34, "b"): ((0, ((2,), (2, 1), (1, 0, 0))), 0),
    (35, "b"): ((0, ((), (1, 1, 1), (1,))), 1),
}
COPIED_ENDS = {
    40: ((0, 0), 0),
    41: ((1, "x", 0, "y", 1), 1),
    42: ((2, 1, 2, 1), 1),
    43: ((2, 0, 2, "a", 2), 2),
}


class Refused(unittest.TestCase):
    def refusal(self, rules, ends, letters="ab", boxes=3, begins=BEGINS):
        try:
            Gatherer(letters, boxes, begins, rules, ends)
        except BadRow as error:
            return "row", error.state, error.letter
        except Copied as error:
            return "copied", error.state, error.letter, error.box
        return None

    def each_fault(self):
        """(rules, ends, what is told) of one fault each."""
        for key, rule in BAD_RULES.items():
            yield {key: rule}, {}, ("row", *key)
        for key, (rule, box) in COPIED_RULES.items():
            yield {key: rule}, {}, ("copied", *key, box)
        for state, end in BAD_ENDS.items():
            yield {}, {state: end}, ("row", state, "")
        for state, (end, box) in COPIED_ENDS.items():
            yield {}, {state: end}, ("copied", state, "", box)

    def test_good_ones_are_made(self):
        self.assertIsNone(self.refusal(GOOD_RULES, GOOD_ENDS))
        self.assertIsNone(self.refusal({}, GOOD_ENDS))
        self.assertIsNone(self.refusal(GOOD_RULES, {}))
        self.assertIsNone(self.refusal({}, {}))
        self.assertIsNone(self.refusal({}, {}, boxes=0, begins=()))
        for letters in ("a", "z0", "09a", "dcba"):
            Gatherer(*echo_fields(letters))
            Gatherer(*mirror_fields(letters))

    def test_each_fault_alone(self):
        for rules, ends, told in self.each_fault():
            self.assertEqual(self.refusal(rules, ends), told)

    def test_each_fault_among_good_ones(self):
        for rules, ends, told in self.each_fault():
            for at in range(5):
                some_rules, some_ends = list(GOOD_RULES.items()), list(GOOD_ENDS.items())
                some_rules[at:at] = rules.items()
                some_ends[at:at] = ends.items()
                self.assertEqual(self.refusal(dict(some_rules), dict(some_ends)), told)

    def test_of_two_the_first_in_the_order_of_the_dict_rules_ahead_of_ends(self):
        for rules, ends, told in self.each_fault():
            for more_rules, more_ends, other_told in self.each_fault():
                if told == other_told:
                    continue
                first = other_told if ends and more_rules else told
                both = ({**GOOD_RULES, **rules, **more_rules}, {**GOOD_ENDS, **ends, **more_ends})
                self.assertEqual(self.refusal(*both), first)

    def test_without_the_bad_ones_it_is_made(self):
        rules, ends, order = dict(GOOD_RULES), dict(GOOD_ENDS), []
        for bad_rules, bad_ends, told in self.each_fault():
            rules.update(bad_rules)
            ends.update(bad_ends)
            order.append(told)
        refused = []
        while (told := self.refusal(rules, ends)) is not None:
            refused.append(told)
            if told[2] == "" and told[1] != 2:
                del ends[told[1]]
            else:
                del rules[told[1:3]]
        self.assertEqual(refused, order)
        self.assertEqual((rules, ends), (GOOD_RULES, GOOD_ENDS))

    def test_a_rule_that_is_bad_in_both_ways(self):
        twice = ((0, 0), (1,), (2,))
        for key, rule in (
            ((0, "c"), (0, twice)),
            ((0, ""), (0, twice)),
            ((-1, "a"), (0, twice)),
            ((0, "a"), (-1, twice)),
            ((0, "a"), (0, twice[:2])),
            ((0, "a"), (0, (*twice, ()))),
            ((0, "a"), (0, ((0, 0), (3,), ()))),
            ((0, "a"), (0, ((0, 0), (), ("",)))),
            ((0, "a"), (0, ((3, 3), (), ()))),
            ((0, "a"), (0, ((-1,), (-1,), ()))),
        ):
            self.assertEqual(self.refusal({key: rule}, {}), ("row", *key), (key, rule))
        for state, end in ((-1, (0, 0)), (0, (0, 0, 3)), (0, (1, "", 1)), (0, (-1, -1))):
            self.assertEqual(self.refusal({}, {state: end}), ("row", state, ""), end)

    def test_copied_goes_first_where_its_rule_stands_first(self):
        copied, bad = (0, ((0, 0), (), ())), (-1, ROWS)
        self.assertEqual(self.refusal({(0, "a"): copied, (1, "a"): bad}, {}), ("copied", 0, "a", 0))
        self.assertEqual(self.refusal({(1, "a"): bad, (0, "a"): copied}, {}), ("row", 1, "a"))
        self.assertEqual(self.refusal({}, {5: (2, 2), 0: "x"}), ("copied", 5, "", 2))
        self.assertEqual(self.refusal({(1, "a"): copied}, {0: "x"}), ("copied", 1, "a", 0))

    def test_the_least_of_several_boxes(self):
        for one in range(8):
            for other in range(8):
                row = (one, other, "x", other, one)
                told = self.refusal({}, {0: row}, boxes=8, begins=("",) * 8)
                self.assertEqual(told, ("copied", 0, "", min(one, other)))
                rows = ((other,), (one,), (other,), (), (one,), (), (), ())
                told = self.refusal({(4, "b"): (0, rows)}, {}, boxes=8, begins=("",) * 8)
                self.assertEqual(told, ("copied", 4, "b", min(one, other)))

    def test_a_box_may_stand_once_in_each_rule_and_each_end(self):
        rules = {(state, letter): (0, ROWS) for state in range(4) for letter in "ab"}
        self.assertIsNone(self.refusal(rules, {state: (0, 1, 2) for state in range(4)}))

    def test_a_text_may_stand_as_often_as_one_likes(self):
        row = ("x", "x", 0, "x")
        self.assertIsNone(self.refusal({(0, "a"): (0, (row, ("x",), ("x", "x")))}, {0: row}))

    def test_boxes_at_the_edge(self):
        for boxes in range(9):
            begins = ("",) * boxes
            whole = tuple((box,) for box in range(boxes))
            for end in (tuple(range(boxes)), ()):
                self.assertIsNone(self.refusal({(0, "a"): (0, whole)}, {0: end}, boxes=boxes, begins=begins))
            for number in (boxes, boxes + 1, -1, -boxes - 1):
                told = self.refusal({}, {0: (number,)}, boxes=boxes, begins=begins)
                self.assertEqual(told, ("row", 0, ""))
                if boxes > 0:
                    rows = (*whole[1:], (number,))
                    told = self.refusal({(6, "b"): (0, rows)}, {}, boxes=boxes, begins=begins)
                    self.assertEqual(told, ("row", 6, "b"))

    def test_two_letters_side_by_side(self):
        for letter in ("ab", "bc", "abc", "cd", "abcd", ""):
            told = self.refusal({(0, letter): (0, ())}, {}, "abcd", 0, ())
            self.assertEqual(told, ("row", 0, letter))

    def test_it_tells_the_rules_own_state_not_the_next_one(self):
        self.assertEqual(self.refusal({(5, "b"): (-9, ROWS)}, {}), ("row", 5, "b"))

    def test_what_was_handed_in_stays(self):
        rules = {**GOOD_RULES, **{key: rule for key, (rule, _) in COPIED_RULES.items()}, **BAD_RULES}
        ends = {**GOOD_ENDS, **BAD_ENDS}
        rows, end_rows = list(rules.items()), list(ends.items())
        self.assertEqual(self.refusal(rules, ends)[0], "copied")
        self.assertEqual(self.refusal(GOOD_RULES, ends)[0], "row")
        self.assertEqual(list(rules.items()), rows)
        self.assertEqual(list(ends.items()), end_rows)


if __name__ == "__main__":
    unittest.main()
