"""Worths of kinds: whether a thing is one, codes of plain ones, their order, counts and ranks."""

from packedforms.books import closed_fault
from packedforms.errors import BadKind, Boxed, Misfit, NoCode, NoRank
from packedforms.kinds import PLAIN_WORDS, is_between, is_tuple_of, power
from packedforms.needs import MOST_BOXES, MOST_WORTH
from packedforms.reaches import standing_web
from packedforms.webs import heights_in, rising


def seen_through(web, number):
    """The number of the kind behind all uses and boxes, and how many boxes those are."""
    boxes = 0
    while web.kinds[number][0] in ("use", "box"):
        if web.kinds[number][0] == "box":
            boxes += 1
        number = web.links[number][0]
    return (number, boxes)


def plain_fits(kind, thing):
    """Whether a thing is a worth of a nat, int or truth."""
    if kind[0] == "truth":
        return isinstance(thing, bool)
    if kind[0] == "nat":
        return is_between(thing, 0, power(kind[1]) - 1)
    half = power(kind[1] - 1)
    return is_between(thing, -half, half - 1)


def arm_place(kind, name):
    """The number of a variant's arm, or None where it has none of that name."""
    for place, part in enumerate(kind[1]):
        if part[0] == name:
            return place
    return None


def form_fits(kind, thing):
    """Whether a thing has the form that a kind, no use and no box, asks for, whatever is within it."""
    word = kind[0]
    if word in PLAIN_WORDS:
        return plain_fits(kind, thing)
    if word == "record":
        return is_tuple_of(thing, len(kind[1]))
    if word == "row":
        return is_tuple_of(thing, kind[1])
    if word == "maybe":
        return isinstance(thing, tuple) and len(thing) <= 1
    return is_tuple_of(thing, 2) and arm_place(kind, thing[0]) is not None


def within(web, number, worth):
    """What a worth of the right form has directly in it: rows (step, number of the kind, thing)."""
    kind = web.kinds[number]
    word = kind[0]
    links = web.links[number]
    if word == "record":
        return [(("field", part[0]), link, thing) for part, link, thing in zip(kind[1], links, worth)]
    if word == "row":
        return [(("at", place), links[0], thing) for place, thing in enumerate(worth)]
    if word == "maybe":
        return [(("some",), links[0], thing) for thing in worth]
    if word == "variant":
        return [(("arm", worth[0]), links[arm_place(kind, worth[0])], worth[1])]
    return []


def toured(web, worth, boxes, most):
    """The path to the first part that doesn't fit, or None; how many parts were met; how many boxes lay around one."""
    met = 0
    deepest = 0
    left = [((), 0, worth, 0)]
    while left:
        path, link, thing, outside = left.pop()
        number, more = seen_through(web, link)
        around = outside + more
        met += 1
        if met > most or around > boxes or not form_fits(web.kinds[number], thing):
            return (path, met, deepest)
        deepest = max(deepest, around)
        rows = [(path + (step,), inner, each, around) for step, inner, each in within(web, number, thing)]
        left.extend(rows[::-1])
    return (None, met, deepest)


def misfit(book, kind, worth, *, boxes=MOST_BOXES, most=MOST_WORTH):
    """None where a thing is a worth of the kind, else the path to the first part that doesn't fit."""
    return toured(standing_web(book, kind), worth, boxes, most)[0]


def fitting_tour(web, worth):
    """What toured tells of a worth; refuses what is none."""
    tour = toured(web, worth, MOST_BOXES, MOST_WORTH)
    if tour[0] is not None:
        raise Misfit(tour[0])
    return tour


def sizeof(book, kind, worth):
    """How many parts a worth has."""
    return fitting_tour(standing_web(book, kind), worth)[1]


def deepness(book, kind, worth):
    """How many boxes of a worth lie within one another at most."""
    return fitting_tour(standing_web(book, kind), worth)[2]


def refuse_unplain(kind):
    """Refuses all but a nat, int or truth."""
    fault = closed_fault((), kind)
    if fault is not None:
        raise BadKind(fault[0], fault[1])
    if kind[0] not in PLAIN_WORDS:
        raise BadKind((), "plain")


def coded(kind, worth):
    """The code of a number or truth: a whole number from 0 on."""
    refuse_unplain(kind)
    if not plain_fits(kind, worth):
        raise Misfit(())
    if kind[0] == "truth":
        return 1 if worth else 0
    return worth + power(kind[1]) if worth < 0 else worth


def decoded(kind, code):
    """The number or truth that has a code."""
    refuse_unplain(kind)
    bits = 1 if kind[0] == "truth" else kind[1]
    if not is_between(code, 0, power(bits) - 1):
        raise NoCode(code)
    if kind[0] == "truth":
        return code == 1
    if kind[0] == "int" and code >= power(bits - 1):
        return code - power(bits)
    return code


def own_rank(kind, worth):
    """By what worths of a kind, no use and no box, go in order ahead of all that is within them."""
    word = kind[0]
    if word == "nat" or word == "int":
        return worth
    if word == "truth":
        return 1 if worth else 0
    if word == "variant":
        return arm_place(kind, worth[0])
    return len(worth)


def before(book, kind, one, other):
    """Whether one worth stands ahead of another one."""
    web = standing_web(book, kind)
    fitting_tour(web, one)
    fitting_tour(web, other)
    left = [(0, one, other)]
    while left:
        link, first, second = left.pop()
        number = seen_through(web, link)[0]
        low = own_rank(web.kinds[number], first)
        high = own_rank(web.kinds[number], second)
        if low != high:
            return low < high
        fellows = list(zip(within(web, number, first), within(web, number, second)))
        rows = [(mine[1], mine[2], theirs[2]) for mine, theirs in fellows]
        left.extend(rows[::-1])
    return False


def product(numbers):
    """All numbers multiplied."""
    whole = 1
    for number in numbers:
        whole *= number
    return whole


def count_of(kind, inner):
    """How many worths a kind has whose parts have so many; it is no box."""
    word = kind[0]
    if word == "nat" or word == "int":
        return power(kind[1])
    if word == "truth":
        return 2
    if word == "variant":
        return sum(inner)
    if word == "row":
        return product([inner[0] for each in range(kind[1])])
    if word == "maybe":
        return 1 + inner[0]
    return product(inner)


def counts_in(web):
    """How many worths each kind of a web has, or None where one is a box."""
    if any([kind[0] == "box" for kind in web.kinds]):
        return None
    counts = [0 for kind in web.kinds]
    for number in rising(heights_in(web)):
        counts[number] = count_of(web.kinds[number], [counts[part] for part in web.links[number]])
    return counts


def count(book, kind):
    """How many worths a kind has, or None where there is a box in its reach."""
    counts = counts_in(standing_web(book, kind))
    return None if counts is None else counts[0]


def rank_of(web, counts, link, worth):
    """The rank of a worth of the kind with this number."""
    number = seen_through(web, link)[0]
    kind = web.kinds[number]
    links = web.links[number]
    inner = [(part, rank_of(web, counts, part, thing)) for step, part, thing in within(web, number, worth)]
    if kind[0] == "int":
        return worth + power(kind[1] - 1)
    if kind[0] in ("nat", "truth"):
        return own_rank(kind, worth)
    if kind[0] == "variant":
        return sum([counts[part] for part in links[:arm_place(kind, worth[0])]]) + inner[0][1]
    if kind[0] == "maybe":
        return 1 + inner[0][1] if inner else 0
    rank = 0
    for part, its_rank in inner:
        rank = rank * counts[part] + its_rank
    return rank


def refuse_boxed(web):
    """The counts of a web; refuses its kind where there are none."""
    counts = counts_in(web)
    if counts is None:
        raise Boxed(web.kinds[0])
    return counts


def ranked(book, kind, worth):
    """How many worths of the kind stand ahead of a worth."""
    web = standing_web(book, kind)
    counts = refuse_boxed(web)
    fitting_tour(web, worth)
    return rank_of(web, counts, 0, worth)


def arm_at(counts, links, rank):
    """The number of the arm in which a variant's worth with this rank is, and the rank of what it has."""
    arm = 0
    rest = rank
    while rest >= counts[links[arm]]:
        rest -= counts[links[arm]]
        arm += 1
    return (arm, rest)


def things_at(web, counts, links, rank):
    """The tuple of worths, one of each of these kinds, with this rank among such tuples."""
    things = []
    rest = rank
    for link in links[::-1]:
        rest, its_rank = divmod(rest, counts[link])
        things.append(worth_at(web, counts, link, its_rank))
    return tuple(things[::-1])


def worth_at(web, counts, link, rank):
    """The worth with this rank of the kind with this number."""
    number = seen_through(web, link)[0]
    kind = web.kinds[number]
    links = web.links[number]
    if kind[0] == "truth":
        return rank == 1
    if kind[0] == "nat":
        return rank
    if kind[0] == "int":
        return rank - power(kind[1] - 1)
    if kind[0] == "variant":
        arm, rest = arm_at(counts, links, rank)
        return (kind[1][arm][0], worth_at(web, counts, links[arm], rest))
    if kind[0] == "maybe":
        return (worth_at(web, counts, links[0], rank - 1),) if rank > 0 else ()
    if kind[0] == "row":
        return things_at(web, counts, links * kind[1], rank)
    return things_at(web, counts, links, rank)


def unranked(book, kind, number):
    """The worth with this rank."""
    web = standing_web(book, kind)
    counts = refuse_boxed(web)
    if not is_between(number, 0, counts[0] - 1):
        raise NoRank(number)
    return worth_at(web, counts, 0, number)
