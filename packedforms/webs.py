"""The web of the kinds that a kind reaches, and what is reckoned over it."""

from packedforms.books import MOST_DEPTH, MOST_FORMS, parts_of
from packedforms.errors import TooMany
from packedforms.kinds import depth_of, forms_in, shown


class Web:
    """The kinds of a reach in its order, and of each the numbers of its parts."""

    def __init__(self, kinds, links):
        self.kinds = kinds
        self.links = links


def met_kinds(book, kind, most):
    """The reach of a closed kind; TooMany names the first kind met that can't stand in it."""
    seen = {}
    kinds = []
    left = [kind]
    while left:
        here = left.pop()
        text = shown(here)
        if text in seen:
            continue
        if len(kinds) == most or forms_in(here) > MOST_FORMS or depth_of(here) > MOST_DEPTH:
            raise TooMany(here)
        seen[text] = True
        kinds.append(here)
        left.extend(parts_of(book, here)[::-1])
    return tuple(kinds)


def web_of(book, kinds):
    """The web of a whole reach."""
    numbers = {shown(kind): number for number, kind in enumerate(kinds)}
    links = [tuple([numbers[shown(each)] for each in parts_of(book, kind)]) for kind in kinds]
    return Web(kinds, links)


def flat_links(web):
    """Of each kind the numbers of its flat parts."""
    return [() if kind[0] == "box" else links for kind, links in zip(web.kinds, web.links)]


def thin_links(web):
    """Of each use and each box the numbers of its parts, of other kinds none."""
    return [links if kind[0] in ("use", "box") else () for kind, links in zip(web.kinds, web.links)]


def lasting(links):
    """The numbers from which one can go on and on, as keys."""
    alive = {number: True for number in range(len(links))}
    while True:
        still = {number: True for number in alive if any([other in alive for other in links[number]])}
        if len(still) == len(alive):
            return alive
        alive = still


def round_way(links):
    """A way that leads back to its first number without meeting another one twice, or None."""
    alive = lasting(links)
    if not alive:
        return None
    way = [list(alive)[0]]
    while True:
        ahead = [other for other in links[way[-1]] if other in alive][0]
        if ahead in way:
            return way[way.index(ahead):] + [ahead]
        way.append(ahead)


def ring_in(web):
    """A ring of kinds of the web, or None where there is none."""
    way = round_way(flat_links(web))
    if way is None:
        way = round_way(thin_links(web))
    if way is None:
        return None
    return tuple([web.kinds[number] for number in way])


def heights_in(web):
    """The heights of all kinds of a web without a ring."""
    flat = flat_links(web)
    tall = [1 for kind in web.kinds]
    while True:
        # Each round settles the kinds of one height more, so this ends where no ring is flat.
        taller = [1 + max([tall[other] for other in links], default=0) for links in flat]
        if taller == tall:
            return tuple(tall)
        tall = taller


def rising(tall):
    """The numbers of all kinds by rising heights, so that each comes behind its flat parts."""
    return sorted(range(len(tall)), key=lambda number: tall[number])


def spans_in(web, tall):
    """The spans of all kinds of a web with these heights."""
    flat = flat_links(web)
    spans = [1 for kind in web.kinds]
    for number in rising(tall):
        times = web.kinds[number][1] if web.kinds[number][0] == "row" else 1
        spans[number] = 1 + times * sum([spans[other] for other in flat[number]])
    return tuple(spans)


def first_above(numbers, most):
    """Where the first number above most stands, or None."""
    above = [place for place, number in enumerate(numbers) if number > most]
    return above[0] if above else None
