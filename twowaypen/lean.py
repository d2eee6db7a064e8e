"""Boxes that serve, with papers for them, and gatherers without the others."""

from twowaypen.gatherers import Gatherer

# A spot is a state and a box that holds a sign there; or a state and None, for being in the state alone. A step leads
# by a letter from one spot to another: a box comes into the one in whose row it stands, and a text in a row fills its
# box whatever the others hold.


def add_step(steps, one, letter, other):
    steps.setdefault(one, []).append((letter, other))


def steps_onward(gatherer):
    steps = {}
    for key, rule in gatherer.rules.items():
        add_step(steps, (key[0], None), key[1], (rule[0], None))
        for box, row in enumerate(rule[1]):
            for piece in row:
                before = None if isinstance(piece, str) else piece
                add_step(steps, (key[0], before), key[1], (rule[0], box))
    return steps


def turned(steps):
    back = {}
    for one, ways in steps.items():
        for letter, other in ways:
            add_step(back, other, letter, one)
    return back


def spots_at_first(gatherer):
    return [(0, None)] + [(0, box) for box, begin in enumerate(gatherer.begins) if begin != ""]


def spots_told(gatherer):
    spots = []
    for state, end in gatherer.ends.items():
        if not isinstance(end, str):
            spots.extend([(state, piece) for piece in end if isinstance(piece, int)])
    return spots


def nearest(spots, steps):
    # For each spot that can be come to: the letter and the spot of the last step of a shortest way, None at the first.
    came = dict([(spot, None) for spot in spots])
    todo = list(came)
    at = 0
    while at < len(todo):
        here = todo[at]
        for letter, spot in steps.get(here, []):
            if spot not in came:
                came[spot] = (letter, here)
                todo.append(spot)
        at += 1
    return came


def letters_back(spot, came):
    letters = []
    at = spot
    while came[at] is not None:
        letters.append(came[at][0])
        at = came[at][1]
    return letters


def papers(gatherer):
    steps = steps_onward(gatherer)
    filled_by = nearest(spots_at_first(gatherer), steps)
    told_by = nearest(spots_told(gatherer), turned(steps))
    serving = {}
    for spot in filled_by:
        if spot[1] is not None and spot in told_by:
            serving.setdefault(spot[1], spot)
    pairs = {}
    for box in sorted(serving):
        ahead = "".join(reversed(letters_back(serving[box], filled_by)))
        pairs[box] = (ahead, "".join(letters_back(serving[box], told_by)))
    return pairs


def lean_row(row, numbers):
    left = [piece for piece in row if isinstance(piece, str) or piece in numbers]
    return tuple([piece if isinstance(piece, str) else numbers[piece] for piece in left])


def lean_rule(rule, numbers):
    return (rule[0], tuple([lean_row(rule[1][box], numbers) for box in numbers]))


def leaner(gatherer):
    numbers = dict([(box, number) for number, box in enumerate(papers(gatherer))])
    rules = {}
    for key, rule in gatherer.rules.items():
        rules[key] = lean_rule(rule, numbers)
    ends = {}
    for state, end in gatherer.ends.items():
        ends[state] = end if isinstance(end, str) else lean_row(end, numbers)
    begins = tuple([gatherer.begins[box] for box in numbers])
    return Gatherer(gatherer.letters, len(numbers), begins, rules, ends)
