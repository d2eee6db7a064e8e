"""Passages: how a walker goes through a stretch of signs, from each side and in each state."""

from twowaypen.rows import together


class Passage:
    def __init__(self, starts, nexts, rows):
        self.starts = starts
        self.nexts = nexts
        self.rows = rows


def of_sign(walker, sign):
    starts = []
    nexts = []
    rows = []
    for state in range(walker.states):
        rule = walker.rules.get((state, sign))
        if rule is None:
            starts.append("stuck")
        else:
            starts.append(len(nexts))
            side = 0 if rule[1] == "left" else walker.states
            nexts.append(-1 - side - rule[2])
            rows.append(together([rule[0]]))
    # The first sign is the last one, too, so both sides begin alike.
    return Passage(tuple(starts + starts), tuple(nexts), tuple(rows))


# From here to strung the nodes of several passages are numbered through, from the first passage on. A step leads to
# such a node, or out of all of them (-1 - exit), or is a word where nothing leads on.


def counts_ahead(parts):
    counts = [0]
    for part in parts:
        counts.append(counts[-1] + len(part.nexts))
    return counts


def come_in(parts, ahead, at, entry):
    start = parts[at].starts[entry]
    return start if isinstance(start, str) else ahead[at] + start


def gone_on(parts, ahead, at, step):
    if step >= 0:
        return ahead[at] + step
    states = len(parts[at].starts) // 2
    out = -1 - step
    if out < states:
        return step if at == 0 else come_in(parts, ahead, at - 1, states + out)
    return step if at == len(parts) - 1 else come_in(parts, ahead, at + 1, out - states)


def steps_of_entries(parts, ahead):
    entries = len(parts[0].starts)
    last = len(parts) - 1
    return [come_in(parts, ahead, 0 if 2 * entry < entries else last, entry) for entry in range(entries)]


def steps_of_nodes(parts, ahead):
    steps = []
    for at, part in enumerate(parts):
        steps.extend([gone_on(parts, ahead, at, step) for step in part.nexts])
    return steps


def is_node(step):
    return isinstance(step, int) and step >= 0


def word_of(step, words):
    if is_node(step):
        return words[step]
    return step if isinstance(step, str) else "out"


def words_of_nodes(entries, steps):
    # The dict has the nodes in the order in which one first comes to them: all is numbered by it.
    words = {}
    for entry in entries:
        way = []
        step = entry
        while is_node(step) and step not in words:
            # It stays so until this way has an end: what comes to it again by then is round.
            words[step] = "round"
            way.append(step)
            step = steps[step]
        word = word_of(step, words)
        for node in way:
            words[node] = word
    return words


def new_numbers(entries, steps, outward):
    begun = dict([(entry, True) for entry in entries])
    ways_to = {}
    for node in outward:
        ways_to[steps[node]] = ways_to.get(steps[node], 0) + 1
    numbers = {}
    for node in outward:
        if node in begun or ways_to[node] > 1:
            numbers[node] = len(numbers)
    return numbers


def way_on(node, steps, rows, numbers):
    pieces = list(rows[node])
    step = steps[node]
    while is_node(step) and step not in numbers:
        pieces.extend(rows[step])
        step = steps[step]
    return (numbers.get(step, step), together(pieces))


def strung(passages):
    parts = [passage for passage in passages if passage is not None]
    if parts == []:
        return None
    ahead = counts_ahead(parts)
    entries = steps_of_entries(parts, ahead)
    steps = steps_of_nodes(parts, ahead)
    words = words_of_nodes(entries, steps)
    outward = [node for node, word in words.items() if word == "out"]
    numbers = new_numbers(entries, steps, outward)
    rows = []
    for part in parts:
        rows.extend(part.rows)
    starts = [numbers.get(entry, word_of(entry, words)) for entry in entries]
    ways = [way_on(node, steps, rows, numbers) for node in numbers]
    return Passage(tuple(starts), tuple([way[0] for way in ways]), tuple([way[1] for way in ways]))


def over(walker, text):
    return strung([of_sign(walker, sign) for sign in text])


def joined(one, other):
    return strung([one, other])


def fate(passage, entry):
    step = passage.starts[entry]
    if isinstance(step, str):
        return (step, ())
    pieces = []
    while is_node(step):
        pieces.extend(passage.rows[step])
        step = passage.nexts[step]
    return (-1 - step, together(pieces))
