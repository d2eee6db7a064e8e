"""Walkers and a second way to walk them, for the tests."""

import random


def stepped(rules, states, text):
    """The word, the text and the origins, told by counting steps.

    There are only so many pairs of a place and a state: a walk with more
    steps than pairs has come to one of them twice.
    """
    places = ["<", *text, ">"]
    written, origins = [], []
    place, state = 0, 0
    for _ in range(len(places) * states + 1):
        if place == len(places):
            return "told", "".join(written), origins
        rule = rules.get((state, places[place]))
        if rule is None:
            return "stuck", "", []
        piece, move, state = rule
        for sign in piece:
            written.append(sign)
            origins.append(place if places[place] not in "<>" else 0)
        place = {"left": place - 1, "right": place + 1}[move]
    return "round", "", []


def copier_rules(letters):
    rules = {(0, sign): ("", "right", 0) for sign in "<>"}
    rules.update({(0, letter): (letter, "right", 0) for letter in letters})
    return rules


def reverser_rules(letters):
    """To the end, back with writing, and to the end again: three states."""
    rules = {
        (0, "<"): ("", "right", 0),
        (0, ">"): ("", "left", 1),
        (1, "<"): ("", "right", 2),
        (2, ">"): ("", "right", 2),
    }
    for letter in letters:
        rules[(0, letter)] = ("", "right", 0)
        rules[(1, letter)] = (letter, "left", 1)
        rules[(2, letter)] = ("", "right", 2)
    return rules


def thrice_rules(letters):
    """There, back and there again, with writing at each sign and each mark."""
    rules = {
        (0, "<"): ("0", "right", 0),
        (0, ">"): ("1", "left", 1),
        (1, "<"): ("2", "right", 2),
        (2, ">"): ("34", "right", 0),
    }
    for letter in letters:
        for state, move in enumerate(["right", "left", "right"]):
            rules[(state, letter)] = (letter, move, state)
    return rules


def drawn_walkers(count):
    """Rules of many kinds, the same ones each time: (letters, states, rules)."""
    draw = random.Random(20)
    for _ in range(count):
        letters = "".join(draw.sample("abyz09", draw.randint(1, 4)))
        states = draw.randint(1, 4)
        rules = {}
        for state in range(states):
            for sign in "<" + letters + ">":
                if draw.random() < 0.04:
                    continue
                left = sign != "<" and draw.random() < 0.35
                piece = "".join(draw.choices("ab01", k=draw.choice([0, 0, 1, 2, 20])))
                rules[(state, sign)] = (piece, "left" if left else "right", draw.randrange(states))
        yield letters, states, rules


def drawn_texts(letters, lengths):
    draw = random.Random(letters)
    return ["".join(draw.choices(letters, k=length)) for length in lengths]
