"""How many boxes a kind needs, papers of that, and plainest worths."""

from packedforms.books import parts_of
from packedforms.errors import Hollow, TooGreat
from packedforms.kinds import shown
from packedforms.papers import paper_fault
from packedforms.reaches import standing_web
from packedforms.webs import heights_in

MOST_BOXES = 12
MOST_WORTH = 1000

# What a kind without any worth needs: one box more than may lie within one another.
HOLLOW = 13


def need_of(kind, parts_need):
    """How many boxes a kind needs whose parts need so many."""
    word = kind[0]
    if word == "maybe":
        return 0
    if word == "variant":
        return min(parts_need)
    if word == "box":
        return min(parts_need[0] + 1, HOLLOW)
    return max(parts_need, default=0)


def needs_in(web):
    """How many boxes each kind of a web needs, where it has no ring."""
    need = [0 for kind in web.kinds]
    while True:
        # Needs only grow from round to round, up to HOLLOW at most, so this ends.
        more = [need_of(kind, [need[part] for part in links]) for kind, links in zip(web.kinds, web.links)]
        if more == need:
            return tuple(need)
        need = more


def needs(book, kind):
    """How many boxes each kind of a reach needs, in its order."""
    return needs_in(standing_web(book, kind))


def needfault(book, thing):
    """None where any written thing is a paper of needs, else its first fault, (row, why)."""
    fault = paper_fault(book, thing, 0, HOLLOW)
    if fault is not None:
        return fault
    most = {}
    for kind, number in thing:
        text = shown(kind)
        most[text] = max(number, most.get(text, 0))
    for row, (kind, number) in enumerate(thing):
        parts_need = [most.get(shown(part), 0) for part in parts_of(book, kind)]
        if number > need_of(kind, parts_need):
            return (row, "part")
    return None


def plain_arm(links, need):
    """The place of the first of a variant's arms that need least."""
    arms = [need[part] for part in links]
    return arms.index(min(arms))


def plain_size(web, number, need, sizes):
    """How many parts the plainest worth of a kind has; sizes are those of the kinds that it is made of."""
    kind = web.kinds[number]
    word = kind[0]
    inner = [sizes.get(part, 0) for part in web.links[number]]
    if word == "use" or word == "box":
        return inner[0]
    if word == "maybe":
        return 1
    if word == "variant":
        return 1 + inner[plain_arm(web.links[number], need)]
    if word == "row":
        return 1 + kind[1] * inner[0]
    return 1 + sum(inner)


def plain_worth(web, number, need, worths):
    """The plainest worth of a kind; worths are those of the kinds that it is made of."""
    kind = web.kinds[number]
    word = kind[0]
    links = web.links[number]
    if word == "nat" or word == "int":
        return 0
    if word == "truth":
        return False
    if word == "maybe":
        return ()
    if word == "variant":
        arm = plain_arm(links, need)
        return (kind[1][arm][0], worths[links[arm]])
    if word == "row":
        return (worths[links[0]],) * kind[1]
    if word == "record":
        return tuple([worths[part] for part in links])
    return worths[links[0]]


def plain_order(web, need):
    """The numbers of all kinds that have a worth, each behind those of which its plainest one is made."""
    tall = heights_in(web)
    # Such a part needs fewer boxes, where the kind is a box, or else no more while it is less high.
    numbers = [number for number in range(len(need)) if need[number] < HOLLOW]
    return sorted(numbers, key=lambda number: (need[number], tall[number]))


def plainest(book, kind):
    """The plainest worth of a kind."""
    web = standing_web(book, kind)
    need = needs_in(web)
    if need[0] == HOLLOW:
        raise Hollow(tuple(zip(web.kinds, need)))
    order = plain_order(web, need)
    sizes = {}
    for number in order:
        sizes[number] = plain_size(web, number, need, sizes)
    if sizes[0] > MOST_WORTH:
        raise TooGreat(kind)
    worths = {}
    for number in order:
        worths[number] = plain_worth(web, number, need, worths)
    return worths[0]
