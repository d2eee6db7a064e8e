"""Writers written as texts."""

from twowaypen.rows import together
from twowaypen.walkers import LEFT_MARK, RIGHT_MARK, Walker


def keys_in_order(writer):
    signs = LEFT_MARK + writer.letters + RIGHT_MARK
    return sorted(writer.rules, key=lambda key: (key[0], signs.index(key[1])))


def walker_rule(key, rule):
    words = [str(key[0]), key[1], rule[1], str(rule[2])]
    if rule[0] != "":
        words.append(rule[0])
    return " ".join(words)


def walker_rows(walker):
    head = " ".join(["walker", walker.letters, str(walker.states)])
    return [head] + [walker_rule(key, walker.rules[key]) for key in keys_in_order(walker)]


def begin_word(begin):
    return "_" if begin == "" else begin


def row_word(row):
    words = ["#" + str(piece) if isinstance(piece, int) else piece for piece in together(row)]
    return "_" if words == [] else ".".join(words)


def gatherer_rule(key, rule):
    return " ".join([str(key[0]), key[1], str(rule[0])] + [row_word(row) for row in rule[1]])


def gatherer_end(state, end):
    word = "!" + end if isinstance(end, str) else row_word(end)
    return " ".join([str(state), "end", word])


def gatherer_rows(gatherer):
    head = " ".join(["gatherer", gatherer.letters, str(gatherer.boxes)])
    begins = " ".join(["begin"] + [begin_word(begin) for begin in gatherer.begins])
    rules = [gatherer_rule(key, gatherer.rules[key]) for key in keys_in_order(gatherer)]
    ends = [gatherer_end(state, gatherer.ends[state]) for state in sorted(gatherer.ends)]
    return [head, begins] + rules + ends


def shown(writer):
    if isinstance(writer, Walker):
        return "\n".join(walker_rows(writer))
    return "\n".join(gatherer_rows(writer))
