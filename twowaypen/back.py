"""Walkers made of gatherers whose states can be gone back."""

from twowaypen.errors import NoWayBack
from twowaypen.walkers import LEFT_MARK, RIGHT_MARK, Walker

# The walker goes to the end of the text as the gatherer would, and tells the end's row from there. A box in a row is
# told where it was filled, one place to the left; from there it goes back to what stands behind the box in the row.
# So it is always in one of these modes, with a state of the gatherer, and a box where it is about one:
# - ON: it goes to the end, and the gatherer comes to this place in the state.
# - INTO: it is to tell what the box holds behind this place, where the gatherer is in the state.
# - PAST: it has told what the box held ahead of this place, to which the gatherer comes in the state.
# - ROUND: it goes to and fro for ever.
ON = "on"
INTO = "into"
PAST = "past"
ROUND = ("round",)


def states_led_to_twice(gatherer, letter):
    seen = {}
    twice = []
    for key, rule in gatherer.rules.items():
        if key[1] == letter:
            if rule[0] in seen:
                twice.append(rule[0])
            seen[rule[0]] = True
    return twice


def first_meeting(gatherer):
    for letter in gatherer.letters:
        twice = states_led_to_twice(gatherer, letter)
        if twice != []:
            return (letter, min(twice))
    return None


def goes_back(gatherer):
    return first_meeting(gatherer) is None


def texts_by_boxes(row):
    # The texts ahead of, between and behind the boxes, each with the boxes beside it, None where there is none.
    found = []
    ahead = None
    text = ""
    for piece in row:
        if isinstance(piece, str):
            text += piece
        else:
            found.append((ahead, text, piece))
            ahead = piece
            text = ""
    found.append((ahead, text, None))
    return found


def rules_of_row(row, sign, state, first, last):
    rules = {}
    for ahead, text, box in texts_by_boxes(row):
        mode = first if ahead is None else (PAST, state, ahead)
        if box is None:
            rules[(mode, sign)] = (text, "right", last)
        else:
            rules[(mode, sign)] = (text, "left", (INTO, state, box))
    return rules


def rules_of_rule(key, rule):
    rules = {((ON, key[0]), key[1]): ("", "right", (ON, rule[0]))}
    for box, row in enumerate(rule[1]):
        # No other state leads here by this letter, so the state behind it tells the one ahead of it.
        rules.update(rules_of_row(row, key[1], key[0], (INTO, rule[0], box), (PAST, rule[0], box)))
    return rules


def rules_of_end(state, end):
    if end == "stuck":
        return {}
    if end == "round":
        return {((ON, state), RIGHT_MARK): ("", "left", ROUND)}
    return rules_of_row(end, RIGHT_MARK, state, (ON, state), (ON, state))


def rules_of_begins(begins):
    rules = {((ON, 0), LEFT_MARK): ("", "right", (ON, 0))}
    for box, begin in enumerate(begins):
        rules[((INTO, 0, box), LEFT_MARK)] = (begin, "right", (PAST, 0, box))
    return rules


def rules_of_going_round(letters):
    rules = {(ROUND, RIGHT_MARK): ("", "left", ROUND)}
    for sign in LEFT_MARK + letters:
        rules[(ROUND, sign)] = ("", "right", ROUND)
    return rules


def rules_by_modes(gatherer):
    rules = rules_of_begins(gatherer.begins)
    rules.update(rules_of_going_round(gatherer.letters))
    for key, rule in gatherer.rules.items():
        rules.update(rules_of_rule(key, rule))
    for state, end in gatherer.ends.items():
        rules.update(rules_of_end(state, end))
    return rules


def walker_by_modes(letters, rules):
    # Only the modes that come up are numbered: most boxes of a gatherer that was made hold nothing in most states.
    modes = [(ON, 0)]
    numbers = {(ON, 0): 0}
    numbered = {}
    at = 0
    while at < len(modes):
        mode = modes[at]
        for sign in LEFT_MARK + letters + RIGHT_MARK:
            rule = rules.get((mode, sign))
            if rule is not None:
                if rule[2] not in numbers:
                    numbers[rule[2]] = len(modes)
                    modes.append(rule[2])
                numbered[(at, sign)] = (rule[0], rule[1], numbers[rule[2]])
        at += 1
    return Walker(letters, len(modes), numbered)


def walker_of(gatherer):
    meeting = first_meeting(gatherer)
    if meeting is not None:
        raise NoWayBack(meeting[0], meeting[1])
    return walker_by_modes(gatherer.letters, rules_by_modes(gatherer))
