"""The maker of papers of growth: by which a kind grows to another, as the names of fields and arms tell."""

from packedforms.books import parts_of
from packedforms.errors import Hollow, NoGrowth, TooGreat
from packedforms.growcheck import MOST_ROWS, is_fresh, seen_kind, word_fits
from packedforms.kinds import shown
from packedforms.needs import plainest
from packedforms.worths import arm_place

# The words of steps in which the old kind is gone into.
INNER_WORDS = ("number", "truth", "record", "variant", "row", "maybe")


class Growing:
    """A paper while it is made: both books, the names that are others now, and the rows so far by their kinds."""

    def __init__(self, old, new, renamed):
        self.old = old
        self.new = new
        self.renamed = renamed
        self.numbers = {}
        self.rows = []


class Pair:
    """Two kinds as seen, of which the one should grow to the other, and the path to the old one."""

    def __init__(self, path, old, new):
        self.path = path
        self.old = old
        self.new = new
        self.key = (shown(old), shown(new))


def step_word(old, new):
    """The word of the step that leads from a kind to another, or None where none fits."""
    if new[0] == "maybe" and old[0] != "maybe":
        return "some"
    words = [word for word in INNER_WORDS if word_fits(old, new, word)]
    return words[0] if words else None


def goals_of(growing, pair):
    """Of each old field or arm the number of the new one to which it goes, or None."""
    goals = []
    for part in pair.old[1]:
        names = [new_name for old_name, new_name in growing.renamed if old_name == part[0]]
        goals.append(arm_place(pair.new, (names + [part[0]])[0]))
    return goals


def all_seen(growing, pair, word):
    """Whether all parts of a pair can be seen that have to be."""
    seen = [seen_kind(growing.new, part) for part in parts_of(growing.new, pair.new)]
    if word != "some":
        seen.extend([seen_kind(growing.old, part) for part in parts_of(growing.old, pair.old)])
    return all([kind is not None for kind in seen])


def step_leads(growing, pair):
    """Whether a step fits a pair, all of whose parts can be seen."""
    word = step_word(pair.old, pair.new)
    if word is None or not all_seen(growing, pair, word):
        return False
    return word != "some" or step_word(pair.old, seen_kind(growing.new, pair.new[1])) != "some"


def fresh_kinds(growing, pair):
    """The kinds of a pair's fresh fields and further things; of these one stands for all."""
    word = pair.old[0]
    if word == "record" and pair.new[0] == "record":
        goals = goals_of(growing, pair)
        return [part[1] for number, part in enumerate(pair.new[1]) if number not in goals]
    if word == "row" and pair.new[0] == "row" and pair.old[1] < pair.new[1]:
        return [pair.new[2]]
    return []


def has_first(growing, kind):
    """Whether a kind has a plainest worth that is small enough."""
    try:
        worth = plainest(growing.new, kind)
    except (Hollow, TooGreat):
        return False
    return is_fresh(growing.new, kind, worth)


def pair_fault(growing, pair):
    """The word for why a pair can't grow, or None."""
    if len(growing.rows) == MOST_ROWS:
        return "many"
    if not step_leads(growing, pair):
        return "kind"
    if step_word(pair.old, pair.new) in ("record", "variant"):
        goals = goals_of(growing, pair)
        if None in goals or len(set(goals)) < len(goals):
            return "gone"
    if not all([has_first(growing, kind) for kind in fresh_kinds(growing, pair)]):
        return "first"
    return None


def inner_pair(growing, pair, step, old, new):
    """The pair of two parts, as seen, to which a step of the path leads."""
    return Pair(pair.path + (step,), seen_kind(growing.old, old), seen_kind(growing.new, new))


def inner_pairs(growing, pair):
    """The pairs to which a pair that can grow leads, in the order of the old kind."""
    old, new = pair.old, pair.new
    word = step_word(old, new)
    if word == "some":
        return [Pair(pair.path, old, seen_kind(growing.new, new[1]))]
    if word == "row":
        return [inner_pair(growing, pair, ("at", 0), old[2], new[2])]
    if word == "maybe":
        return [inner_pair(growing, pair, ("some",), old[1], new[1])]
    if word != "record" and word != "variant":
        return []
    step = "field" if word == "record" else "arm"
    parts = list(zip(old[1], goals_of(growing, pair)))
    return [inner_pair(growing, pair, (step, name), kind, new[1][goal][1]) for (name, kind), goal in parts]


def fields_of(growing, pair, links):
    """The fields of a record step; links are the rows' numbers of the old fields, in their order."""
    goals = goals_of(growing, pair)
    fields = []
    for number, part in enumerate(pair.new[1]):
        if number in goals:
            source = goals.index(number)
            fields.append((source, links[source], None))
        else:
            fields.append((-1, -1, plainest(growing.new, part[1])))
    return tuple(fields)


def step_of(growing, pair):
    """The step of a pair, once all rows to which it leads have their numbers."""
    old, new = pair.old, pair.new
    word = step_word(old, new)
    links = [growing.numbers[inner.key] for inner in inner_pairs(growing, pair)]
    if word == "record":
        return (word, fields_of(growing, pair, links))
    if word == "variant":
        return (word, tuple(zip(goals_of(growing, pair), links)))
    if word == "row":
        more = new[1] - old[1]
        return (word, links[0], (plainest(growing.new, new[2]),) * more if more > 0 else ())
    return (word,) + tuple(links)


def growth(old, kind, new, other, *, renamed=()):
    """A paper by which a kind of the old book grows to another of the new one."""
    growing = Growing(old, new, renamed)
    one, two = seen_kind(old, kind), seen_kind(new, other)
    if one is None or two is None:
        raise NoGrowth((), "kind")
    left = [Pair((), one, two)]
    while left:
        pair = left.pop()
        if pair.key in growing.numbers:
            continue
        why = pair_fault(growing, pair)
        if why is not None:
            raise NoGrowth(pair.path, why)
        growing.numbers[pair.key] = len(growing.rows)
        growing.rows.append(pair)
        left.extend(inner_pairs(growing, pair)[::-1])
    return tuple([(pair.old, pair.new, step_of(growing, pair)) for pair in growing.rows])
