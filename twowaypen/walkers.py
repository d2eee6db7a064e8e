"""Walkers: writers that go over their text to and fro, with few states."""

from twowaypen.errors import BadRule
from twowaypen.writers import Writer

LEFT_MARK = "<"
RIGHT_MARK = ">"


def is_state(number, states):
    return 0 <= number < states


def is_bad(letters, states, key, rule):
    # A list, since a text has also the empty text and several signs side by side "in" it.
    signs = list(LEFT_MARK + letters + RIGHT_MARK)
    if key[1] not in signs:
        return True
    if key[1] == LEFT_MARK and rule[1] == "left":
        return True
    return not (is_state(key[0], states) and is_state(rule[2], states))


class Walker(Writer):
    def __init__(self, letters, states, rules):
        Writer.__init__(self, letters)
        self.states = states
        self.rules = dict(rules)
        for key, rule in self.rules.items():
            if is_bad(letters, states, key, rule):
                raise BadRule(key[0], key[1])

    def walk(self, text):
        signs = LEFT_MARK + text + RIGHT_MARK
        pieces = []
        been = {}
        place = 0
        state = 0
        while place < len(signs):
            rule = self.rules.get((state, signs[place]))
            if rule is None:
                return ("stuck", [])
            # The same place and state again would lead to the same steps for ever.
            if (place, state) in been:
                return ("round", [])
            been[(place, state)] = True
            if rule[0] != "":
                pieces.append((rule[0], place if place <= len(text) else 0))
            place += 1 if rule[1] == "right" else -1
            state = rule[2]
        return ("told", pieces)
