"""The look at papers of growth: whether one leads from a kind to another, and if not, its first fault."""

from packedforms.books import bookfault, parts_of
from packedforms.kinds import alike, is_between, is_tuple_of
from packedforms.needs import MOST_BOXES
from packedforms.plancheck import from_on, kind_stands
from packedforms.programs import word_of
from packedforms.worths import misfit

MOST_ROWS = 60
FRESH_PARTS = 60
FRESH_BOXES = 4

# How many things a step of each word has, the word among them.
STEP_LENGTHS = {
    "number": 1,
    "truth": 1,
    "record": 2,
    "variant": 2,
    "row": 3,
    "maybe": 2,
    "some": 2,
}
NUMBER_WORDS = ("nat", "int")


def seen_kind(book, kind):
    """The kind behind all uses and boxes of a kind that stands, or None where there are too many boxes."""
    boxes = 0
    while kind[0] in ("use", "box"):
        if kind[0] == "box":
            boxes += 1
        kind = parts_of(book, kind)[0]
    return kind if boxes <= MOST_BOXES else None


def is_field(thing, many):
    """Whether it is a new field of a record step in a paper of so many rows, whatever its worth is."""
    if not is_tuple_of(thing, 3):
        return False
    if is_between(thing[0], -1, -1):
        return is_between(thing[1], -1, -1)
    return from_on(thing[0], 0) and is_between(thing[1], 0, many - 1)


def is_arm(thing, many):
    """Whether it is an old arm of a variant step in a paper of so many rows."""
    return is_tuple_of(thing, 2) and from_on(thing[0], 0) and is_between(thing[1], 0, many - 1)


def step_right(step, many):
    """Whether a thing has the form of a step in a paper of so many rows."""
    word = word_of(step)
    if word not in STEP_LENGTHS or len(step) != STEP_LENGTHS[word]:
        return False
    if word == "record":
        return isinstance(step[1], tuple) and all([is_field(field, many) for field in step[1]])
    if word == "variant":
        return isinstance(step[1], tuple) and all([is_arm(arm, many) for arm in step[1]])
    if word == "row":
        return is_between(step[1], 0, many - 1) and isinstance(step[2], tuple)
    return len(step) == 1 or is_between(step[1], 0, many - 1)


def number_grows(old, new):
    """Whether each number of a nat or int is one of another."""
    if old[0] == new[0]:
        return old[1] <= new[1]
    return old[0] == "nat" and old[1] < new[1]


def word_fits(old, new, word):
    """Whether a step of a word may lead from a kind to another, whatever else is in it."""
    if word == "number":
        return old[0] in NUMBER_WORDS and new[0] in NUMBER_WORDS and number_grows(old, new)
    if word == "some":
        return new[0] == "maybe"
    if old[0] != word or new[0] != word:
        return False
    return word != "row" or old[1] <= new[1]


def counts_fit(old, new, step):
    """Whether a step whose word fits has as many fields, arms or worths as it should, and none from nowhere."""
    if step[0] == "record":
        return len(step[1]) == len(new[1]) and all([field[0] < len(old[1]) for field in step[1]])
    if step[0] == "variant":
        return len(step[1]) == len(old[1]) and all([arm[0] < len(new[1]) for arm in step[1]])
    return step[0] != "row" or len(step[2]) == new[1] - old[1]


def links_of(row):
    """The rows to which a row leads: (number of the row, old part, new part), in the step's order."""
    old, new, step = row
    word = step[0]
    if word == "record":
        pairs = list(zip(step[1], new[1]))
        return [(field[1], old[1][field[0]][1], part[1]) for field, part in pairs if field[0] != -1]
    if word == "variant":
        return [(arm[1], part[1], new[1][arm[0]][1]) for arm, part in zip(step[1], old[1])]
    if word == "row":
        return [(step[1], old[2], new[2])]
    if word == "maybe":
        return [(step[1], old[1], new[1])]
    if word == "some":
        return [(step[1], old, new[1])]
    return []


def is_seen(book, part, kind):
    """Whether a kind is what a part is seen as."""
    seen = seen_kind(book, part)
    return seen is not None and alike(seen, kind)


def pairs_right(old, new, paper, row):
    """Whether all rows to which a row leads are of its parts as seen."""
    for number, old_part, new_part in links_of(row):
        if not is_seen(old, old_part, paper[number][0]) or not is_seen(new, new_part, paper[number][1]):
            return False
    return True


def is_fresh(new, kind, worth):
    """Whether a thing may be the worth of a fresh field or a further thing of a kind."""
    return misfit(new, kind, worth, boxes=FRESH_BOXES, most=FRESH_PARTS) is None


def worths_right(new, row):
    """Whether all worths of a row's step are such as should be there."""
    kind, step = row[1], row[2]
    if step[0] == "row":
        return all([is_fresh(new, kind[2], worth) for worth in step[2]])
    if step[0] != "record":
        return True
    if any([field[2] is not None for field in step[1] if field[0] != -1]):
        return False
    fields = list(zip(step[1], kind[1]))
    return all([is_fresh(new, part[1], field[2]) for field, part in fields if field[0] == -1])


def each_once(row):
    """Whether each old field comes just once, or no two arms are the same."""
    old, new, step = row
    if step[0] == "record":
        return sorted([field[0] for field in step[1] if field[0] != -1]) == list(range(len(old[1])))
    if step[0] == "variant":
        return len(set([arm[0] for arm in step[1]])) == len(step[1])
    return True


class Looking:
    """What is known while a paper is looked at: both books, and the texts of all kinds that are known to stand."""

    def __init__(self, old, new):
        self.old = old
        self.new = new
        self.old_standing = {}
        self.new_standing = {}


def kinds_right(looking, row):
    """Whether both kinds of a row stand and are as seen."""
    if not kind_stands(looking.old, row[0], looking.old_standing) or row[0][0] in ("use", "box"):
        return False
    return kind_stands(looking.new, row[1], looking.new_standing) and row[1][0] not in ("use", "box")


def row_fault(looking, paper, row):
    """The word for what is wrong with a row of the right form, or None."""
    if not kinds_right(looking, row):
        return "kind"
    old, new, step = row
    if not word_fits(old, new, step[0]) or not counts_fit(old, new, step):
        return "step"
    if not pairs_right(looking.old, looking.new, paper, row):
        return "pair"
    if not worths_right(looking.new, row):
        return "worth"
    if not each_once(row):
        return "twice"
    if step[0] == "some" and paper[step[1]][2][0] == "some":
        return "some"
    return None


def growfault(old, new, thing):
    """None where any written thing is a paper of growth between two books, else its first fault, (row, why)."""
    if bookfault(old) is not None:
        return (-1, "old")
    if bookfault(new) is not None:
        return (-1, "new")
    if not isinstance(thing, tuple) or not 1 <= len(thing) <= MOST_ROWS:
        return (-1, "paper")
    for number, row in enumerate(thing):
        if not is_tuple_of(row, 3) or not step_right(row[2], len(thing)):
            return (number, "form")
    looking = Looking(old, new)
    for number, row in enumerate(thing):
        why = row_fault(looking, thing, row)
        if why is not None:
            return (number, why)
    return None
