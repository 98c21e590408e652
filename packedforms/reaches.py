"""Reaches of kinds, their heights and spans, and whether a kind stands."""

from packedforms.books import bookfault, closed_fault, formfault, parts_of, refuse_unformed
from packedforms.errors import Endless, TooGreat, TooMany
from packedforms.kinds import shown
from packedforms.papers import paper_fault
from packedforms.webs import first_above, heights_in, met_kinds, ring_in, spans_in, web_of

MOST_KINDS = 60
MOST_HEIGHT = 10
MOST_SPAN = 400


def reach(book, kind, *, most=MOST_KINDS):
    """The kinds that a closed kind reaches, itself first, each once, in preorder."""
    refuse_unformed(book, kind)
    return met_kinds(book, kind, most)


def endless_refused(book, kind):
    """The web of a kind's reach, once it is known to have no ring."""
    web = web_of(book, reach(book, kind))
    ring = ring_in(web)
    if ring is not None:
        raise Endless(ring)
    return web


def heights_of(web):
    """The heights of a web without a ring, once none is too great."""
    tall = heights_in(web)
    above = first_above(tall, MOST_HEIGHT)
    if above is not None:
        raise TooMany(web.kinds[above])
    return tall


def spans_of(web):
    """The spans of a web without a ring, once neither a height nor one of them is too great."""
    wide = spans_in(web, heights_of(web))
    above = first_above(wide, MOST_SPAN)
    if above is not None:
        raise TooGreat(web.kinds[above])
    return wide


def heights(book, kind):
    """The heights of all kinds of a reach, in its order."""
    return heights_of(endless_refused(book, kind))


def spans(book, kind):
    """The spans of all kinds of a reach, in its order."""
    return spans_of(endless_refused(book, kind))


def standing_web(book, kind):
    """The web of the reach of a kind that stands; refuses any other."""
    web = endless_refused(book, kind)
    spans_of(web)
    return web


def checked(book, kind):
    """The kind, where it stands."""
    standing_web(book, kind)
    return kind


def standing_fault(book, kind):
    """The word for why a kind that is closed under a right book doesn't stand, or None."""
    try:
        web = web_of(book, met_kinds(book, kind, MOST_KINDS))
    except TooMany:
        return "many"
    if ring_in(web) is not None:
        return "endless"
    try:
        spans_of(web)
    except TooMany:
        return "high"
    except TooGreat:
        return "great"
    return None


def kindfault(book, thing):
    """None where any written thing is a kind that stands, else (place, why)."""
    fault = formfault(book, thing)
    if fault is not None:
        return fault
    word = standing_fault(book, thing)
    return None if word is None else ((), word)


def ringfault(book, thing):
    """None where any written thing is a ring, else the first word for why it is none."""
    if bookfault(book) is not None:
        return "book"
    if not isinstance(thing, tuple) or len(thing) < 2:
        return "ring"
    if any([closed_fault(book, each) is not None for each in thing]):
        return "kind"
    thin = all([each[0] in ("use", "box") for each in thing])
    texts = [shown(each) for each in thing]
    for ahead, text in zip(thing[:-1], texts[1:]):
        if ahead[0] == "box" and not thin:
            return "part"
        if text not in [shown(each) for each in parts_of(book, ahead)]:
            return "part"
    if texts[0] != texts[-1]:
        return "round"
    if len(set(texts)) != len(texts) - 1:
        return "twice"
    return None


def highfault(book, thing):
    """None where any written thing is a paper of heights, else its first fault, (row, why)."""
    fault = paper_fault(book, thing, 1, None)
    if fault is not None:
        return fault
    least = {}
    for kind, number in thing:
        text = shown(kind)
        least[text] = min(number, least.get(text, number))
    for row, (kind, number) in enumerate(thing):
        flat = () if kind[0] == "box" else parts_of(book, kind)
        for each in flat:
            # A part without a row counts as if its number were this one, so that it isn't lesser.
            if least.get(shown(each), number) >= number:
                return (row, "part")
    return None
