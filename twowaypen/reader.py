"""Writers read from their texts. A row of another form is refused with its number."""

from twowaypen.errors import NoText
from twowaypen.gatherers import Gatherer
from twowaypen.walkers import LEFT_MARK, RIGHT_MARK, Walker

# Written out, since Python's own isdigit and islower also take signs of other scripts.
FIGURES = "0123456789"
SIGNS = "abcdefghijklmnopqrstuvwxyz0123456789"


def demand(holds, line):
    if not holds:
        raise NoText(line)


def is_made_of(word, signs):
    return word != "" and all([sign in signs for sign in word])


def number_of(word, line):
    demand(is_made_of(word, FIGURES) and len(word) <= 4, line)
    demand(word == "0" or not word.startswith("0"), line)
    return int(word)


def text_of(word, line):
    demand(is_made_of(word, SIGNS), line)
    return word


def sign_of(word, signs, line):
    demand(is_made_of(word, signs) and len(word) == 1, line)
    return word


def letters_of(word, line):
    demand(is_made_of(word, SIGNS) and len(word) <= 4, line)
    demand(len(set(word)) == len(word), line)
    return word


def piece_of(word, line):
    if word.startswith("#"):
        return number_of(word[1:], line)
    return text_of(word, line)


def row_of(word, line):
    if word == "_":
        return ()
    pieces = [piece_of(part, line) for part in word.split(".")]
    for one, other in zip(pieces, pieces[1:]):
        demand(isinstance(one, int) or isinstance(other, int), line)
    return tuple(pieces)


def begin_of(word, line):
    return "" if word == "_" else text_of(word, line)


def end_of(word, line):
    if word in ("!stuck", "!round"):
        return word[1:]
    return row_of(word, line)


def add_walker_rule(rules, words, line):
    demand(len(words) in (4, 5), line)
    key = (number_of(words[0], line), sign_of(words[1], LEFT_MARK + SIGNS + RIGHT_MARK, line))
    demand(key not in rules, line)
    demand(words[2] in ("left", "right"), line)
    state = number_of(words[3], line)
    piece = text_of(words[4], line) if len(words) == 5 else ""
    rules[key] = (piece, words[2], state)


def add_gatherer_rule(rules, boxes, words, line):
    demand(len(words) == 3 + boxes, line)
    key = (number_of(words[0], line), sign_of(words[1], SIGNS, line))
    demand(key not in rules, line)
    state = number_of(words[2], line)
    rules[key] = (state, tuple([row_of(word, line) for word in words[3:]]))


def add_end(ends, words, line):
    demand(len(words) == 3, line)
    state = number_of(words[0], line)
    demand(state not in ends, line)
    ends[state] = end_of(words[2], line)


def walker_of_rows(letters, states, rows):
    demand(states > 0, 1)
    rules = {}
    for line, words in enumerate(rows[1:], start=2):
        add_walker_rule(rules, words, line)
    return Walker(letters, states, rules)


def gatherer_of_rows(letters, boxes, rows):
    demand(len(rows) > 1, 2)
    demand(rows[1][0] == "begin" and len(rows[1]) == 1 + boxes, 2)
    begins = tuple([begin_of(word, 2) for word in rows[1][1:]])
    rules = {}
    ends = {}
    for line, words in enumerate(rows[2:], start=3):
        if len(words) > 1 and words[1] == "end":
            add_end(ends, words, line)
        else:
            add_gatherer_rule(rules, boxes, words, line)
    return Gatherer(letters, boxes, begins, rules, ends)


def read(text):
    rows = [row.split(" ") for row in text.split("\n")]
    head = rows[0]
    demand(len(head) == 3 and head[0] in ("walker", "gatherer"), 1)
    letters = letters_of(head[1], 1)
    count = number_of(head[2], 1)
    if head[0] == "walker":
        return walker_of_rows(letters, count, rows)
    return gatherer_of_rows(letters, count, rows)
