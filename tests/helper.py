"""Walkers and gatherers, and a second way to go through each, for the tests."""

import collections
import itertools
import random
import re


def stepped(rules, states, text):
    """The word, the text and the origins, told by counting steps.

    There are only so many pairs of a place and a state: a walk with more
    steps than pairs has come to one of them twice.
    """
    places = ["<", *text, ">"]
    written, origins = [], []
    place, state = 0, 0
    for _ in range(len(places) * states + 1):
        if place == len(places):
            return "told", "".join(written), origins
        rule = rules.get((state, places[place]))
        if rule is None:
            return "stuck", "", []
        piece, move, state = rule
        for sign in piece:
            written.append(sign)
            origins.append(place if places[place] not in "<>" else 0)
        place = {"left": place - 1, "right": place + 1}[move]
    return "round", "", []


def copier_rules(letters):
    rules = {(0, sign): ("", "right", 0) for sign in "<>"}
    rules.update({(0, letter): (letter, "right", 0) for letter in letters})
    return rules


def reverser_rules(letters):
    """To the end, back with writing, and to the end again: three states."""
    rules = {
        (0, "<"): ("", "right", 0),
        (0, ">"): ("", "left", 1),
        (1, "<"): ("", "right", 2),
        (2, ">"): ("", "right", 2),
    }
    for letter in letters:
        rules[(0, letter)] = ("", "right", 0)
        rules[(1, letter)] = (letter, "left", 1)
        rules[(2, letter)] = ("", "right", 2)
    return rules


def thrice_rules(letters):
    """There, back and there again, with writing at each sign and each mark."""
    rules = {
        (0, "<"): ("0", "right", 0),
        (0, ">"): ("1", "left", 1),
        (1, "<"): ("2", "right", 2),
        (2, ">"): ("34", "right", 0),
    }
    for letter in letters:
        for state, move in enumerate(["right", "left", "right"]):
            rules[(state, letter)] = (letter, move, state)
    return rules


def drawn_walkers(count):
    """Rules of many kinds, the same ones each time: (letters, states, rules)."""
    draw = random.Random(20)
    for _ in range(count):
        letters = "".join(draw.sample("abyz09", draw.randint(1, 4)))
        states = draw.randint(1, 4)
        rules = {}
        for state in range(states):
            for sign in "<" + letters + ">":
                if draw.random() < 0.04:
                    continue
                left = sign != "<" and draw.random() < 0.35
                piece = "".join(draw.choices("ab01", k=draw.choice([0, 0, 1, 2, 20])))
                rules[(state, sign)] = (piece, "left" if left else "right", draw.randrange(states))
        yield letters, states, rules


# From both sides c is gone over to the right; a and b send the walker to and fro between them.
TO_AND_FRO = {
    (0, "c"): ("w", "right", 0),
    (0, "a"): ("p", "right", 0),
    (0, "b"): ("q", "left", 1),
    (1, "a"): ("r", "right", 2),
    (2, "b"): ("s", "left", 3),
    (3, "a"): ("t", "right", 3),
    (3, "b"): ("u", "right", 3),
    (3, "c"): ("v", "right", 3),
}


def drawn_sweepers(letters, signs, count):
    """Rules of walkers that mostly go from mark to mark: (states, rules).

    Some states go right, some left; a mark turns the walker into the next
    state. Some rules go another way, and some are missing.
    """
    draw = random.Random(letters + signs)
    for _ in range(count):
        states = draw.randint(1, 4)
        wild, missing = draw.choice([0, 0, 0.15, 0.4]), draw.choice([0, 0.03])
        moves = ["right", draw.choice(["left", "left", "right"]), "right", draw.choice(["left", "right"])]
        rules = {}
        for state, sign in itertools.product(range(states), "<" + letters + ">"):
            move, following = moves[state], state
            turned = {("left", "<"): "right", ("right", ">"): "left"}.get((move, sign))
            if turned is not None and state + 1 < states:
                move, following = turned, state + 1
            if sign == "<":
                move = "right"
            elif draw.random() < wild:
                move, following = draw.choice(["left", "right"]), draw.randrange(states)
            if draw.random() >= missing:
                piece = "".join(draw.choices(signs, k=draw.choice([0, 1, 1, 2])))
                rules[(state, sign)] = (piece, move, following)
        yield states, rules


def drawn_texts(letters, lengths):
    draw = random.Random(letters)
    return ["".join(draw.choices(letters, k=length)) for length in lengths]


def unfolded(begins, rules, ends, text):
    """The word, the text and the origins of a gatherer, told from behind.

    The states are gone over first; then the end's row is unfolded, box by
    box, back through the rules that were taken to the begins.
    """
    state, taken = 0, []
    for letter in text:
        if (state, letter) not in rules:
            return "stuck", "", []
        state, rows = rules[(state, letter)]
        taken.append(rows)
    end = ends.get(state, "stuck")
    if end in ("stuck", "round"):
        return end, "", []
    written, origins = [], []
    todo = [(piece, len(text) + 1) for piece in reversed(end)]
    while todo:
        piece, number = todo.pop()
        if isinstance(piece, str):
            written.append(piece)
            origins += [number if number <= len(text) else 0] * len(piece)
        elif number == 1:
            todo.append((begins[piece], 0))
        else:
            todo += [(inner, number - 1) for inner in reversed(taken[number - 2][piece])]
    return "told", "".join(written), origins


def echo_fields(letters):
    """Of a gatherer that tells what it was handed."""
    return letters, 1, ("",), {(0, letter): (0, ((0, letter),)) for letter in letters}, {0: (0,)}


def mirror_fields(letters):
    """The text, 00, and the text backwards, with 8 ahead and 9 behind."""
    rules = {(0, letter): (0, ((0, letter), (letter, 1))) for letter in letters}
    return letters, 2, ("8", "9"), rules, {0: (0, "00", 1)}


def drawn_rows(draw, boxes, lengths=(1, 2, 20)):
    """A row for each box, none of them with a box that stands in another one."""
    rows = [[] for _ in range(boxes)]
    numbers = [box for box in range(boxes) if draw.random() < 0.9]
    draw.shuffle(numbers)
    for box in numbers:
        draw.choice(rows).append(box)
    for row in rows:
        for _ in range(draw.choice([0, 0, 1, 2])):
            text = "".join(draw.choices("ab01", k=draw.choice(lengths)))
            row.insert(draw.randint(0, len(row)), text)
    return tuple(tuple(row) for row in rows)


def drawn_gatherers(count):
    """Of many kinds, the same ones each time: (letters, boxes, begins, rules, ends)."""
    draw = random.Random(21)
    for _ in range(count):
        letters = "".join(draw.sample("abyz09", draw.randint(1, 4)))
        boxes = draw.randint(0, 8)
        states = [0] + draw.sample([1, 2, 3, 10, 42, 9999], draw.randint(0, 3))
        begins = tuple("".join(draw.choices("xy5", k=draw.choice([0, 1, 20]))) for _ in range(boxes))
        keys = [(state, letter) for state in states for letter in letters if draw.random() < 0.97]
        draw.shuffle(keys)
        rules = {key: (draw.choice(states), drawn_rows(draw, boxes)) for key in keys}
        ends = {}
        for state in draw.sample(states, len(states)):
            kind = draw.random()
            if kind < 0.75:
                ends[state] = sum(drawn_rows(draw, boxes), draw.choice([(), ("ab",)]))
            elif kind < 0.9:
                ends[state] = draw.choice(["stuck", "round"])
        yield letters, boxes, begins, rules, ends


def small_gatherers(count):
    """Like the others, but with few boxes and states and short texts of a, b, 0 and 1."""
    draw = random.Random(22)
    for _ in range(count):
        letters = "".join(draw.sample("abz", draw.randint(1, 3)))
        boxes = draw.randint(0, 3)
        states = [0] + draw.sample([1, 2, 5, 42], draw.randint(0, 2))
        begins = tuple("".join(draw.choices("ab01", k=draw.choice([0, 0, 1, 3]))) for _ in range(boxes))
        keys = [(state, letter) for state in states for letter in letters if draw.random() < 0.95]
        draw.shuffle(keys)
        rules = {key: (draw.choice(states), drawn_rows(draw, boxes, (1, 1, 2))) for key in keys}
        ends = {}
        for state in states:
            row = sum(drawn_rows(draw, boxes, (1, 2)), draw.choice([(), ("ab",), ("b", "0")]))
            ends[state] = draw.choice([row, row, row, row, row, "stuck", "round"])
        if draw.random() < 0.1:
            del ends[draw.choice(states)]
        yield letters, boxes, begins, rules, ends


def drawn_ways_back(count, longest=20):
    """Gatherers whose states can be gone back: (letters, boxes, begins, rules, ends)."""
    draw = random.Random(24)
    for _ in range(count):
        letters = "".join(draw.sample("abyz09", draw.randint(1, 3)))
        boxes = draw.choice([0, 1, 1, 2, 2, 3, 4, 8])
        states = [0] + draw.sample([1, 2, 3, 10, 42, 9999], draw.randint(0, 3))
        begins = tuple("".join(draw.choices("xy5", k=draw.choice([0, 1, longest]))) for _ in range(boxes))
        led = [(letter, *pair) for letter in letters for pair in zip(states, draw.sample(states, len(states)))]
        rules = {}
        for letter, state, following in draw.sample(led, len(led)):
            if draw.random() < 0.92:
                rules[(state, letter)] = following, drawn_rows(draw, boxes, (1, 2, longest))
        ends = {}
        for state in draw.sample(states, len(states)):
            row = sum(drawn_rows(draw, boxes), draw.choice([(), ("ab",), ("b", "0")]))
            ends[state] = draw.choice([row, row, row, row, row, "stuck", "round"])
        if draw.random() < 0.15:
            del ends[draw.choice(states)]
        yield letters, boxes, begins, rules, ends


def states_in(rules, ends=()):
    """0 and the states that stand in the rules, and in the ends where they are handed in."""
    return {0} | {key[0] for key in rules} | {rule[0] for rule in rules.values()} | set(ends)


def gone_over(rules, state, held, text):
    """The state and what the boxes hold behind the text; None where there is no rule."""
    for letter in text:
        if (state, letter) not in rules:
            return None
        state, rows = rules[(state, letter)]
        held = ["".join(held[piece] if isinstance(piece, int) else piece for piece in row) for row in rows]
    return state, held


def comes_through(fields, box, ahead, following):
    """Whether the box holds a sign behind the first text, and both are told with it in what is told.

    What the box holds then is changed into a sign of its own, which is looked for in what is told.
    """
    _, _, begins, rules, ends = fields
    came = gone_over(rules, 0, begins, ahead)
    if came is None or came[1][box] == "":
        return False
    held = ["!" if number == box else "" for number in range(len(begins))]
    went = gone_over(rules, came[0], held, following)
    end = "stuck" if went is None else ends.get(went[0], "stuck")
    return not isinstance(end, str) and any(isinstance(piece, int) and "!" in went[1][piece] for piece in end)


def serving_boxes(fields):
    """The boxes that serve, rising, told by all that can come up: which boxes hold something, and where each goes."""
    letters, boxes, begins, rules, ends = fields
    todo = [(0, frozenset(box for box in range(boxes) if begins[box]))]
    full = set(todo)
    while todo:
        state, holding = todo.pop()
        for letter in letters:
            if (state, letter) in rules:
                following, rows = rules[(state, letter)]
                holds = frozenset(
                    box for box, row in enumerate(rows) if any(isinstance(p, str) or p in holding for p in row)
                )
                if (following, holds) not in full:
                    full.add((following, holds))
                    todo.append((following, holds))
    return sorted({box for state, holding in full for box in holding if is_told_from(fields, state, box)})


def is_told_from(fields, state, box):
    letters, _, _, rules, ends = fields
    todo = [(state, box)]
    seen = set(todo)
    while todo:
        state, box = todo.pop()
        end = ends.get(state, ())
        if not isinstance(end, str) and box in end:
            return True
        for letter in letters:
            following, rows = rules.get((state, letter), (0, ()))
            for number, row in enumerate(rows):
                if box in row and (following, number) not in seen:
                    seen.add((following, number))
                    todo.append((following, number))
    return False


def all_texts(letters, most):
    return ["".join(signs) for length in range(most + 1) for signs in itertools.product(letters, repeat=length)]


def gatherer_fields(gatherer):
    return gatherer.letters, gatherer.boxes, gatherer.begins, gatherer.rules, gatherer.ends


def passage_fields(passage):
    return passage.starts, passage.nexts, passage.rows


def one_behind_the_other(fields, states, rules, text):
    """The word, the text and the origins of a walker on the text that a gatherer tells."""
    word, written, origins = unfolded(*fields[2:], text)
    if word != "told":
        return word, written, origins
    word, written, places = stepped(rules, states, written)
    return word, written, [origins[place - 1] if place > 0 else 0 for place in places]


def gone_along(rules, states, stretch, entry):
    """The pairs of a place and a state, from an entry on, and the exit, or "stuck" or "round"."""
    place, state = (0, entry) if entry < states else (len(stretch) - 1, entry - states)
    pairs = []
    for _ in range(len(stretch) * states + 1):
        if not 0 <= place < len(stretch):
            return pairs, state if place < 0 else states + state
        if (state, stretch[place]) not in rules:
            return pairs, "stuck"
        pairs.append((place, state))
        _, move, state = rules[(state, stretch[place])]
        place = {"left": place - 1, "right": place + 1}[move]
    return pairs, "round"


def written_at(rules, stretch, pairs):
    return [rules[(state, stretch[place])][0] for place, state in pairs]


def as_row(pieces):
    row = []
    for kind, same in itertools.groupby([piece for piece in pieces if piece != ""], key=type):
        row += ["".join(same)] if kind is str else same
    return tuple(row)


def nodes_along(rules, states, stretch):
    """Starts, nexts, and for each node the pairs from it on up to the next one, by going along all walks."""
    walks = [gone_along(rules, states, stretch, entry) for entry in range(2 * states)]
    outward = [(pairs, end) for pairs, end in walks if end not in ("stuck", "round")]
    firsts = {pairs[0] for pairs, _ in outward}
    come_from = collections.defaultdict(set)
    for pairs, _ in outward:
        for one, other in zip(pairs, pairs[1:]):
            come_from[other].add(one)
    nodes, nexts, chains = {}, {}, {}
    for pairs, _ in outward:
        for pair in pairs:
            if pair in firsts or len(come_from[pair]) >= 2:
                nodes.setdefault(pair, len(nodes))
    for pairs, end in outward:
        marks = [at for at, pair in enumerate(pairs) if pair in nodes] + [len(pairs)]
        for at, to in zip(marks, marks[1:]):
            nexts[pairs[at]] = nodes[pairs[to]] if to < len(pairs) else -1 - end
            chains[pairs[at]] = pairs[at:to]
    starts = tuple(end if isinstance(end, str) else nodes[pairs[0]] for pairs, end in walks)
    return starts, tuple(nexts[node] for node in nodes), [chains[node] for node in nodes]


def passage_along(rules, states, stretch):
    """The starts, nexts and rows of a stretch of one sign or more."""
    starts, nexts, chains = nodes_along(rules, states, stretch)
    return starts, nexts, tuple(as_row(written_at(rules, stretch, chain)) for chain in chains)


def fate_along(rules, states, stretch, entry):
    pairs, end = gone_along(rules, states, stretch, entry)
    return (end, ()) if end in ("stuck", "round") else (end, as_row(written_at(rules, stretch, pairs)))


class Boxed:
    """A stretch made of texts and of held texts, each of these (text, box).

    For each node of a held text's passage there is a box, numbered from
    the one told on: what is written from the node on stands in it. So at
    such a node the box is told, and at the other pairs there nothing.
    """

    def __init__(self, rules, states, pieces):
        self.rules, self.states = rules, states
        self.stretch = "".join(piece if isinstance(piece, str) else piece[0] for piece in pieces)
        self.held, ahead = {}, 0
        for piece in pieces:
            text = piece if isinstance(piece, str) else piece[0]
            if text != piece and text != "":
                self.held.update({(ahead + at, state): "" for at in range(len(text)) for state in range(states)})
                for box, chain in enumerate(nodes_along(rules, states, text)[2], start=piece[1]):
                    self.held[(ahead + chain[0][0], chain[0][1])] = box
            ahead += len(text)

    def row(self, pairs):
        written = written_at(self.rules, self.stretch, pairs)
        return as_row([self.held.get(pair, piece) for pair, piece in zip(pairs, written)])

    def passage(self):
        if self.stretch == "":
            return None
        starts, nexts, chains = nodes_along(self.rules, self.states, self.stretch)
        return starts, nexts, tuple(self.row(chain) for chain in chains)

    def end(self):
        pairs, end = gone_along(self.rules, self.states, self.stretch, 0)
        return end if end in ("stuck", "round") else self.row(pairs)


def held_texts(rules, states, texts):
    """Each text with the number of the first box for its passage; and how many boxes there are."""
    held, boxes = [], 0
    for text in texts:
        held.append((text, boxes))
        boxes += len(nodes_along(rules, states, text)[2]) if text else 0
    return held, boxes


def rows_in(passages):
    return [row for passage in passages if passage for row in passage[2]]


def made_along(fields, states, rules):
    """What is to be made of a gatherer and a walker behind it: (letters, boxes, begins, rules, ends).

    The first texts that came up in the boxes stand for all texts of a state.
    """
    letters, _, begins, its_rules, its_ends = fields
    found, todo, made_rules, made_ends, sizes = {}, [], {}, {}, []

    def number(state, texts):
        passages = [Boxed(rules, states, [text]).passage() for text in texts]
        key = (state, tuple(passage and passage[:2] for passage in passages))
        if key not in found:
            found[key] = len(found)
            todo.append((state, texts))
        return found[key]

    number(0, begins)
    for at in itertools.takewhile(lambda at: at < len(todo), itertools.count()):
        state, texts = todo[at]
        held, boxes = held_texts(rules, states, texts)
        sizes.append(boxes)

        def boxed(row):
            return Boxed(rules, states, [held[piece] if isinstance(piece, int) else piece for piece in row])

        for letter in letters:
            if (state, letter) in its_rules:
                following, rows = its_rules[(state, letter)]
                stretches = [boxed(row) for row in rows]
                to = number(following, tuple(each.stretch for each in stretches))
                made_rules[(at, letter)] = to, rows_in(each.passage() for each in stretches)
        if state in its_ends:
            end = its_ends[state]
            made_ends[at] = end if isinstance(end, str) else boxed(("<", *end, ">")).end()
    most = max(sizes)
    made_rules = {key: (to, tuple(rows + [()] * (most - len(rows)))) for key, (to, rows) in made_rules.items()}
    made_begins = ["".join(row) for row in rows_in(Boxed(rules, states, [text]).passage() for text in begins)]
    return letters, most, tuple(made_begins + [""] * (most - len(made_begins))), made_rules, made_ends


WALKER_TEXT = """walker ba 3
0 < right 0
2 > right 1 xy0
0 b left 2 9
1 a right 0"""
GATHERER_TEXT = """gatherer ab 2
begin _ x0
3 end !stuck
0 a 3 #1.ab.#0 _
0 end #0.z
9999 end !round
3 b 0 x.#0.#1 0
1 end _"""
NUMBER = "(?:0|[1-9][0-9]{0,3})"
TEXT = "[a-z0-9]+"
BOX = f"#{NUMBER}"
ROW = rf"(?:_|{TEXT}|(?:{TEXT}\.)?{BOX}(?:\.(?:{TEXT}\.)?{BOX})*(?:\.{TEXT})?)"
HEAD = re.compile(f"(walker|gatherer) ([a-z0-9]{{1,4}}) ({NUMBER})")
WALKER_RULE = re.compile(f"({NUMBER} [a-z0-9<>]) (?:left|right) {NUMBER}(?: {TEXT})?")
END = re.compile(f"({NUMBER} end) (?:!stuck|!round|{ROW})")


def first_wrong(text):
    """The number of the first row that has no form of a writer's text, or None, by patterns."""
    rows = text.split("\n")
    head = HEAD.fullmatch(rows[0])
    if not head or len(set(head[2])) < len(head[2]) or head[1] + head[3] == "walker0":
        return 1
    forms, at = [WALKER_RULE], 1
    if head[1] == "gatherer":
        boxes = int(head[3])
        if len(rows) < 2 or not re.fullmatch(f"begin(?: (?:_|{TEXT})){{{boxes}}}", rows[1]):
            return 2
        forms, at = [END, re.compile(f"({NUMBER} [a-z0-9]) {NUMBER}(?: {ROW}){{{boxes}}}")], 2
    keys = []
    for line, row in enumerate(rows[at:], start=at + 1):
        fits = [found for found in (form.fullmatch(row) for form in forms) if found]
        if not fits or fits[0][1] in keys:
            return line
        keys.append(fits[0][1])
    return None
