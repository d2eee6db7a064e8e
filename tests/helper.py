"""Walkers and gatherers, and a second way to go through each, for the tests."""

import random
import re


def stepped(rules, states, text):
    """The word, the text and the origins, told by counting steps.

    There are only so many pairs of a place and a state: a walk with more
    steps than pairs has come to one of them twice.
    """
    places = ["<", *text, ">"]
    written, origins = [], []
    place, state = 0, 0
    for _ in range(len(places) * states + 1):
        if place == len(places):
            return "told", "".join(written), origins
        rule = rules.get((state, places[place]))
        if rule is None:
            return "stuck", "", []
        piece, move, state = rule
        for sign in piece:
            written.append(sign)
            origins.append(place if places[place] not in "<>" else 0)
        place = {"left": place - 1, "right": place + 1}[move]
    return "round", "", []


def copier_rules(letters):
    rules = {(0, sign): ("", "right", 0) for sign in "<>"}
    rules.update({(0, letter): (letter, "right", 0) for letter in letters})
    return rules


def reverser_rules(letters):
    """To the end, back with writing, and to the end again: three states."""
    rules = {
        (0, "<"): ("", "right", 0),
        (0, ">"): ("", "left", 1),
        (1, "<"): ("", "right", 2),
        (2, ">"): ("", "right", 2),
    }
    for letter in letters:
        rules[(0, letter)] = ("", "right", 0)
        rules[(1, letter)] = (letter, "left", 1)
        rules[(2, letter)] = ("", "right", 2)
    return rules


def thrice_rules(letters):
    """There, back and there again, with writing at each sign and each mark."""
    rules = {
        (0, "<"): ("0", "right", 0),
        (0, ">"): ("1", "left", 1),
        (1, "<"): ("2", "right", 2),
        (2, ">"): ("34", "right", 0),
    }
    for letter in letters:
        for state, move in enumerate(["right", "left", "right"]):
            rules[(state, letter)] = (letter, move, state)
    return rules


def drawn_walkers(count):
    """Rules of many kinds, the same ones each time: (letters, states, rules)."""
    draw = random.Random(20)
    for _ in range(count):
        letters = "".join(draw.sample("abyz09", draw.randint(1, 4)))
        states = draw.randint(1, 4)
        rules = {}
        for state in range(states):
            for sign in "<" + letters + ">":
                if draw.random() < 0.04:
                    continue
                left = sign != "<" and draw.random() < 0.35
                piece = "".join(draw.choices("ab01", k=draw.choice([0, 0, 1, 2, 20])))
                rules[(state, sign)] = (piece, "left" if left else "right", draw.randrange(states))
        yield letters, states, rules


def drawn_texts(letters, lengths):
    draw = random.Random(letters)
    return ["".join(draw.choices(letters, k=length)) for length in lengths]


def unfolded(begins, rules, ends, text):
    """The word, the text and the origins of a gatherer, told from behind.

    The states are gone over first; then the end's row is unfolded, box by
    box, back through the rules that were taken to the begins.
    """
    state, taken = 0, []
    for letter in text:
        if (state, letter) not in rules:
            return "stuck", "", []
        state, rows = rules[(state, letter)]
        taken.append(rows)
    end = ends.get(state, "stuck")
    if end in ("stuck", "round"):
        return end, "", []
    written, origins = [], []
    todo = [(piece, len(text) + 1) for piece in reversed(end)]
    while todo:
        piece, number = todo.pop()
        if isinstance(piece, str):
            written.append(piece)
            origins += [number if number <= len(text) else 0] * len(piece)
        elif number == 1:
            todo.append((begins[piece], 0))
        else:
            todo += [(inner, number - 1) for inner in reversed(taken[number - 2][piece])]
    return "told", "".join(written), origins


def echo_fields(letters):
    """Of a gatherer that tells what it was handed."""
    return letters, 1, ("",), {(0, letter): (0, ((0, letter),)) for letter in letters}, {0: (0,)}


def mirror_fields(letters):
    """The text, 00, and the text backwards, with 8 ahead and 9 behind."""
    rules = {(0, letter): (0, ((0, letter), (letter, 1))) for letter in letters}
    return letters, 2, ("8", "9"), rules, {0: (0, "00", 1)}


def drawn_rows(draw, boxes):
    """A row for each box, none of them with a box that stands in another one."""
    rows = [[] for _ in range(boxes)]
    numbers = [box for box in range(boxes) if draw.random() < 0.9]
    draw.shuffle(numbers)
    for box in numbers:
        draw.choice(rows).append(box)
    for row in rows:
        for _ in range(draw.choice([0, 0, 1, 2])):
            text = "".join(draw.choices("ab01", k=draw.choice([1, 2, 20])))
            row.insert(draw.randint(0, len(row)), text)
    return tuple(tuple(row) for row in rows)


def drawn_gatherers(count):
    """Of many kinds, the same ones each time: (letters, boxes, begins, rules, ends)."""
    draw = random.Random(21)
    for _ in range(count):
        letters = "".join(draw.sample("abyz09", draw.randint(1, 4)))
        boxes = draw.randint(0, 8)
        states = [0] + draw.sample([1, 2, 3, 10, 42, 9999], draw.randint(0, 3))
        begins = tuple("".join(draw.choices("xy5", k=draw.choice([0, 1, 20]))) for _ in range(boxes))
        keys = [(state, letter) for state in states for letter in letters if draw.random() < 0.97]
        draw.shuffle(keys)
        rules = {key: (draw.choice(states), drawn_rows(draw, boxes)) for key in keys}
        ends = {}
        for state in draw.sample(states, len(states)):
            kind = draw.random()
            if kind < 0.75:
                ends[state] = sum(drawn_rows(draw, boxes), draw.choice([(), ("ab",)]))
            elif kind < 0.9:
                ends[state] = draw.choice(["stuck", "round"])
        yield letters, boxes, begins, rules, ends


WALKER_TEXT = """walker ba 3
0 < right 0
2 > right 1 xy0
0 b left 2 9
1 a right 0"""
GATHERER_TEXT = """gatherer ab 2
begin _ x0
3 end !stuck
0 a 3 #1.ab.#0 _
0 end #0.z
9999 end !round
3 b 0 x.#0.#1 0
1 end _"""
NUMBER = "(?:0|[1-9][0-9]{0,3})"
TEXT = "[a-z0-9]+"
BOX = f"#{NUMBER}"
ROW = rf"(?:_|{TEXT}|(?:{TEXT}\.)?{BOX}(?:\.(?:{TEXT}\.)?{BOX})*(?:\.{TEXT})?)"
HEAD = re.compile(f"(walker|gatherer) ([a-z0-9]{{1,4}}) ({NUMBER})")
WALKER_RULE = re.compile(f"({NUMBER} [a-z0-9<>]) (?:left|right) {NUMBER}(?: {TEXT})?")
END = re.compile(f"({NUMBER} end) (?:!stuck|!round|{ROW})")


def first_wrong(text):
    """The number of the first row that has no form of a writer's text, or None, by patterns."""
    rows = text.split("\n")
    head = HEAD.fullmatch(rows[0])
    if not head or len(set(head[2])) < len(head[2]) or head[1] + head[3] == "walker0":
        return 1
    forms, at = [WALKER_RULE], 1
    if head[1] == "gatherer":
        boxes = int(head[3])
        if len(rows) < 2 or not re.fullmatch(f"begin(?: (?:_|{TEXT})){{{boxes}}}", rows[1]):
            return 2
        forms, at = [END, re.compile(f"({NUMBER} [a-z0-9]) {NUMBER}(?: {ROW}){{{boxes}}}")], 2
    keys = []
    for line, row in enumerate(rows[at:], start=at + 1):
        fits = [found for found in (form.fullmatch(row) for form in forms) if found]
        if not fits or fits[0][1] in keys:
            return line
        keys.append(fits[0][1])
    return None
