"""Gatherers: writers that go over their text once and keep what they will write in boxes."""

from twowaypen.errors import BadRow, Copied
from twowaypen.writers import Writer

END_WORDS = ("stuck", "round")


def is_bad_piece(piece, boxes):
    if isinstance(piece, str):
        return piece == ""
    return not 0 <= piece < boxes


def is_bad_row(row, boxes):
    return any([is_bad_piece(piece, boxes) for piece in row])


def is_bad_rule(letters, boxes, key, rule):
    # A list, since a text has also the empty text and several signs side by side "in" it.
    if key[1] not in list(letters):
        return True
    if key[0] < 0 or rule[0] < 0 or len(rule[1]) != boxes:
        return True
    return any([is_bad_row(row, boxes) for row in rule[1]])


def is_bad_end(boxes, state, end):
    if state < 0:
        return True
    if isinstance(end, str):
        return end not in END_WORDS
    return is_bad_row(end, boxes)


def least_copied(rows):
    seen = {}
    copied = []
    for row in rows:
        for box in [piece for piece in row if isinstance(piece, int)]:
            if box in seen:
                copied.append(box)
            seen[box] = True
    return min(copied, default=None)


def refuse_copies(state, letter, rows):
    box = least_copied(rows)
    if box is not None:
        raise Copied(state, letter, box)


def put_together(row, held, origin):
    pieces = []
    for piece in row:
        if isinstance(piece, str):
            pieces.append((piece, origin))
        else:
            pieces.extend(held[piece])
    return pieces


class Gatherer(Writer):
    def __init__(self, letters, boxes, begins, rules, ends):
        Writer.__init__(self, letters)
        self.boxes = boxes
        self.begins = begins
        self.rules = dict(rules)
        self.ends = dict(ends)
        for key, rule in self.rules.items():
            if is_bad_rule(letters, boxes, key, rule):
                raise BadRow(key[0], key[1])
            refuse_copies(key[0], key[1], rule[1])
        for state, end in self.ends.items():
            if is_bad_end(boxes, state, end):
                raise BadRow(state, "")
            if not isinstance(end, str):
                refuse_copies(state, "", [end])

    def walk(self, text):
        held = [[(begin, 0)] if begin != "" else [] for begin in self.begins]
        state = 0
        for number, letter in enumerate(text, start=1):
            rule = self.rules.get((state, letter))
            if rule is None:
                return ("stuck", [])
            state = rule[0]
            held = [put_together(row, held, number) for row in rule[1]]
        end = self.ends.get(state, "stuck")
        if isinstance(end, str):
            return (end, [])
        return ("told", put_together(end, held, 0))
