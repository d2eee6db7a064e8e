"""A desk that keeps writers by names and is told rows."""

from twowaypen.alike import parted
from twowaypen.back import walker_of
from twowaypen.behind import behind, made
from twowaypen.errors import NoName, NoRow
from twowaypen.lean import leaner
from twowaypen.reader import FIGURES, is_made_of, read
from twowaypen.shown import shown
from twowaypen.walkers import Walker

# Written out, since Python's own islower also takes signs of other scripts.
SMALL_LETTERS = "abcdefghijklmnopqrstuvwxyz"
# What the words behind the first one of a row are: a name that is to be kept, a name by which any writer, a walker or
# a gatherer is kept, or no name.
FORMS = {
    "keep": ("new", "rows"),
    "drop": ("writer",),
    "show": ("writer",),
    "run": ("writer", "text"),
    "made": ("new", "walker"),
    "behind": ("new", "writer", "walker"),
    "back": ("new", "gatherer"),
    "leaner": ("new", "gatherer"),
    "size": ("writer",),
    "parted": ("writer", "writer", "most"),
}


def demand_row(holds):
    if not holds:
        raise NoRow()


def demand_name(holds):
    if not holds:
        raise NoName()


def kind_of(writer):
    return "walker" if isinstance(writer, Walker) else "gatherer"


def text_of_rows(rows):
    # A line feed among them parts no rows: it becomes a sign that a writer's text has nowhere.
    return "\n".join([row.replace("\n", "/") for row in rows.split("/")])


def rows_of_text(text):
    return text.replace("\n", "/")


def is_within_bounds(letters, most):
    longest = 1
    for length in range(most):
        longest *= len(letters)
    return most <= 8 and longest <= 3000


def answer_keep(kept, words):
    kept[words[1]] = read(text_of_rows(words[2]))
    return "ok"


def answer_drop(kept, words):
    kept.pop(words[1])
    return "ok"


def answer_show(kept, words):
    return rows_of_text(shown(kept[words[1]]))


def answer_run(kept, words):
    writer = kept[words[1]]
    demand_row(all([sign in writer.letters for sign in words[2]]))
    told = writer.outcome(words[2])
    return "told " + told[1] if told[0] == "told" else told[0]


def answer_made(kept, words):
    kept[words[1]] = made(kept[words[2]])
    return "ok"


def answer_behind(kept, words):
    first = kept[words[2]]
    gatherer = made(first) if kind_of(first) == "walker" else first
    kept[words[1]] = behind(gatherer, kept[words[3]])
    return "ok"


def answer_back(kept, words):
    kept[words[1]] = walker_of(kept[words[2]])
    return "ok"


def answer_leaner(kept, words):
    kept[words[1]] = leaner(kept[words[2]])
    return "ok"


def answer_size(kept, words):
    writer = kept[words[1]]
    count = writer.states if kind_of(writer) == "walker" else writer.boxes
    return kind_of(writer) + " " + str(count)


def answer_parted(kept, words):
    one = kept[words[1]]
    other = kept[words[2]]
    most = int(words[3])
    demand_row(one.letters == other.letters and is_within_bounds(one.letters, most))
    text = parted(one, other, most)
    return "none" if text is None else "on " + text


ANSWERS = {
    "keep": answer_keep,
    "drop": answer_drop,
    "show": answer_show,
    "run": answer_run,
    "made": answer_made,
    "behind": answer_behind,
    "back": answer_back,
    "leaner": answer_leaner,
    "size": answer_size,
    "parted": answer_parted,
}


def words_of(row):
    demand_row(isinstance(row, str))
    # What is kept has blanks in it.
    words = row.split(" ", 2) if row.startswith("keep ") else row.split(" ")
    demand_row(words[0] in FORMS)
    demand_row(len(words) == 1 + len(FORMS[words[0]]))
    return words


def check_form(form, word):
    demand_row(form != "most" or (is_made_of(word, FIGURES) and len(word) == 1))


def check_name(form, word, kept):
    if form in ("new", "writer", "walker", "gatherer"):
        demand_name(is_made_of(word, SMALL_LETTERS) and len(word) <= 8)
        demand_name(form == "new" or word in kept)


def check_kind(form, word, kept):
    if form in ("walker", "gatherer"):
        demand_row(kind_of(kept[word]) == form)


class Desk:
    def __init__(self):
        self.kept = {}

    def say(self, row):
        words = words_of(row)
        forms = list(zip(FORMS[words[0]], words[1:]))
        for form, word in forms:
            check_form(form, word)
        for form, word in forms:
            check_name(form, word, self.kept)
        for form, word in forms:
            check_kind(form, word, self.kept)
        return ANSWERS[words[0]](self.kept, words)
