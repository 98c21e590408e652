"""The maker of plans: one that holds for each kind that stands, if its entries aren't too wide."""

from packedforms.errors import TooWide
from packedforms.kinds import PLAIN_WORDS, power
from packedforms.orders import MOST_LEAST, bits_of, falling, fewest, placed, rounded
from packedforms.plans import MOST_SIZE, SLOT_WIDES, align, bits_in, part_align, part_size, part_spares, size, tag_align
from packedforms.reaches import standing_web
from packedforms.webs import heights_in, rising

LEAST = "least"
FALLING = "falling"
TOLD = "told"
GREAT = 128

WIDE_TAG = 8


class Making:
    """A plan while it is made, a list with None for each form that isn't made yet, and what is wished of it."""

    def __init__(self, kinds, order, spare, bits, great):
        self.plan = [(kind, None) for kind in kinds]
        self.order = order
        self.spare = spare
        self.bits = bits
        self.great = great


class Payload:
    """What an arm has: its entry (-1 for none), whether it is far, its bits and its align."""

    def __init__(self, plan, entry, far):
        self.entry = entry
        self.far = far
        self.bits = part_size(plan, entry, far)
        self.multiple = part_align(plan, entry, far)


def slot_form(making, kind):
    """The form of a number's or truth's slot."""
    bits = bits_in(kind)
    if bits < 8 and making.bits:
        return ("slot", bits)
    return ("slot", [wide for wide in SLOT_WIDES if wide >= bits][0])


def order_for(making, parts):
    """The order in which a record's fields are laid."""
    if making.order == TOLD:
        return tuple(range(len(parts)))
    if making.order == LEAST and len(parts) <= MOST_LEAST:
        return fewest(parts)[1]
    return falling(parts)


def fields_form(making, links):
    """The form of a record whose fields have these entries."""
    parts = tuple([(size(making.plan, entry), align(making.plan, entry)) for entry in links])
    order = order_for(making, parts)
    rows = [(at, entry, False) for at, entry in zip(placed(parts, order), links)]
    return ("fields", bits_of(parts, order), tuple(rows))


def run_form(making, entry):
    """The form of a row of things that have this entry."""
    return ("run", rounded(size(making.plan, entry), align(making.plan, entry)), entry)


def payloads_of(making, kind, links):
    """The payloads of the arms of a variant or a maybe."""
    plan = making.plan
    payloads = [Payload(plan, entry, size(plan, entry) > making.great) for entry in links]
    return [Payload(plan, -1, False)] + payloads if kind[0] == "maybe" else payloads


def behind(payload, end):
    """The least place of a payload that isn't below an end; one without bits lies at 0."""
    return 0 if payload.bits == 0 else rounded(end, payload.multiple)


def pick_form(payloads, places, tag, host, codes):
    """The form of a pick whose payloads lie at these places, with the tag slot (at, wide)."""
    at, wide = tag
    ends = [place + payload.bits for place, payload in zip(places, payloads)]
    arms = [(code, place, payload.entry, payload.far) for code, place, payload in zip(codes, places, payloads)]
    return ("pick", max(ends + [at + wide]), at, wide, host, tuple(arms))


def tag_bits(making, many):
    """How many bits a tag of its own has that tells so many arms."""
    if many > 1 and not making.bits:
        return WIDE_TAG
    wide = 0
    while power(wide) < many:
        wide += 1
    return wide


def tag_ahead(payloads, wide):
    """The pick with its tag ahead of all payloads."""
    places = [behind(payload, wide) for payload in payloads]
    return pick_form(payloads, places, (0, wide), -1, list(range(len(payloads))))


def tag_behind(payloads, wide):
    """The pick with its tag behind all payloads."""
    places = [0 for payload in payloads]
    at = rounded(max([payload.bits for payload in payloads]), tag_align(wide))
    return pick_form(payloads, places, (at, wide), -1, list(range(len(payloads))))


def tag_in(payloads, host, slot):
    """The pick with its tag in a spare slot of the host's payload."""
    at, wide, first = slot
    places = []
    codes = []
    code = first
    for number, payload in enumerate(payloads):
        if number == host:
            places.append(0)
            codes.append(-1)
        else:
            places.append(0 if payload.bits <= at else behind(payload, at + wide))
            codes.append(code)
            code += 1
    return pick_form(payloads, places, (at, wide), host, codes)


def hosted_forms(making, payloads):
    """The picks with their tags in spare slots that have a pattern for each other arm."""
    forms = []
    for host, payload in enumerate(payloads):
        for slot in part_spares(making.plan, 0, payload.entry, payload.far):
            if power(slot[1]) - slot[2] >= len(payloads) - 1:
                forms.append(tag_in(payloads, host, slot))
    return forms


def shortest_pick(making, kind, links):
    """The first of those forms of a variant or a maybe that have the fewest bits."""
    payloads = payloads_of(making, kind, links)
    wide = tag_bits(making, len(payloads))
    forms = [tag_ahead(payloads, wide), tag_behind(payloads, wide)]
    if making.spare and len(payloads) > 1:
        forms.extend(hosted_forms(making, payloads))
    # min tells the first of those that are alike.
    return min(forms, key=lambda form: form[1])


def made_form(making, kind, links):
    """The form of a kind whose parts have these entries; those of its flat parts are made."""
    word = kind[0]
    if word in PLAIN_WORDS:
        return slot_form(making, kind)
    if word == "record":
        return fields_form(making, links)
    if word == "row":
        return run_form(making, links[0])
    if word == "box":
        return ("point", links[0])
    if word == "use":
        return ("same", links[0])
    return shortest_pick(making, kind, links)


def refuse_wide(plan):
    """Refuses the first entry that has too many bits."""
    for entry, (kind, form) in enumerate(plan):
        bits = size(plan, entry)
        if bits > MOST_SIZE:
            raise TooWide(kind, bits)


def planned(book, kind, *, order=LEAST, spare=True, bits=True, great=GREAT):
    """A plan that holds, of the kinds of a reach in its order."""
    web = standing_web(book, kind)
    making = Making(web.kinds, order, spare, bits, great)
    for number in rising(heights_in(web)):
        each = web.kinds[number]
        making.plan[number] = (each, made_form(making, each, web.links[number]))
    refuse_wide(making.plan)
    return tuple(making.plan)
