"""Gatherers made: of a walker, and of a gatherer and a walker behind it."""

from twowaypen.errors import TooMany
from twowaypen.gatherers import Gatherer
from twowaypen.passages import Passage, fate, of_sign, over, strung
from twowaypen.rows import filled
from twowaypen.walkers import LEFT_MARK, RIGHT_MARK


def echo(letters):
    rules = {}
    for letter in letters:
        rules[(0, letter)] = (0, ((0, letter),))
    return Gatherer(letters, 1, ("",), rules, {0: (0,)})


def shape_of(passage):
    return None if passage is None else (passage.starts, passage.nexts)


def box_count(shapes):
    return sum([len(shape[1]) for shape in shapes if shape is not None])


def with_boxes(shapes):
    passages = []
    box = 0
    for shape in shapes:
        if shape is None:
            passages.append(None)
        else:
            rows = [(box + node,) for node in range(len(shape[1]))]
            passages.append(Passage(shape[0], shape[1], tuple(rows)))
            box += len(rows)
    return passages


def all_rows(passages):
    rows = []
    for passage in passages:
        if passage is not None:
            rows.extend(passage.rows)
    return rows


def padded(things, count, nothing):
    return tuple(things + [nothing] * (count - len(things)))


class Making:
    def __init__(self, gatherer, walker, most):
        self.gatherer = gatherer
        self.walker = walker
        self.most = most
        self.found = []
        self.numbers = {}
        self.known = {}

    def number_for(self, state, passages):
        key = (state, tuple([shape_of(passage) for passage in passages]))
        if key not in self.numbers:
            if len(self.found) >= self.most:
                raise TooMany(self.most)
            self.numbers[key] = len(self.found)
            self.found.append(key)
        return self.numbers[key]

    def passage_of_text(self, text):
        # The same texts come up at state after state, so each is gone over once.
        if text not in self.known:
            self.known[text] = over(self.walker, text)
        return self.known[text]

    def passages_of_pieces(self, row, held):
        return [held[piece] if isinstance(piece, int) else self.passage_of_text(piece) for piece in row]

    def rule_for(self, rule, held):
        passages = [strung(self.passages_of_pieces(row, held)) for row in rule[1]]
        return (self.number_for(rule[0], passages), all_rows(passages))

    def rules_for(self, number):
        state = self.found[number][0]
        held = with_boxes(self.found[number][1])
        rules = {}
        for letter in self.gatherer.letters:
            if (state, letter) in self.gatherer.rules:
                rules[(number, letter)] = self.rule_for(self.gatherer.rules[(state, letter)], held)
        return rules

    def end_for(self, end, held):
        if isinstance(end, str):
            return end
        left = of_sign(self.walker, LEFT_MARK)
        right = of_sign(self.walker, RIGHT_MARK)
        told = fate(strung([left] + self.passages_of_pieces(end, held) + [right]), 0)
        return told[0] if isinstance(told[0], str) else told[1]

    def all_ends(self):
        ends = {}
        for number, key in enumerate(self.found):
            if key[0] in self.gatherer.ends:
                ends[number] = self.end_for(self.gatherer.ends[key[0]], with_boxes(key[1]))
        return ends


def behind(gatherer, walker, most=100):
    making = Making(gatherer, walker, most)
    begins = [over(walker, begin) for begin in gatherer.begins]
    making.number_for(0, begins)
    rules = {}
    number = 0
    while number < len(making.found):
        rules.update(making.rules_for(number))
        number += 1
    boxes = max([box_count(shapes) for state, shapes in making.found])
    for key in list(rules):
        rules[key] = (rules[key][0], padded(rules[key][1], boxes, ()))
    texts = [filled(row, []) for row in all_rows(begins)]
    return Gatherer(gatherer.letters, boxes, padded(texts, boxes, ""), rules, making.all_ends())


def made(walker, most=100):
    return behind(echo(walker.letters), walker, most)


def chained(walkers, most=100):
    gatherer = made(walkers[0], most)
    for walker in walkers[1:]:
        gatherer = behind(gatherer, walker, most)
    return gatherer
