"""Plans that hold: an entry's bits, its align, its block, its spare slots and what it leads to."""

from packedforms.kinds import power
from packedforms.webs import Web

ROOT = 0
MOST_SIZE = 4096
POINT = 16

# The bits that a slot may have beside those of its numbers themselves.
SLOT_WIDES = (8, 16, 32, 64)

# The least pattern that no point ever has, as addresses are below it.
NO_ADDRESS = 32768


def bits_in(kind):
    """How many bits the numbers of a nat, int or truth have."""
    return 1 if kind[0] == "truth" else kind[1]


def own_parts(form):
    """The parts of fields or of a pick, rows (at, entry, far) in their order."""
    if form[0] == "fields":
        return form[2]
    return tuple([(at, entry, far) for code, at, entry, far in form[5]])


def tag_align(wide):
    """The align of a tag that has its own bits."""
    return 8 if wide == 8 else 1


def size(plan, entry):
    """How many bits an entry has."""
    kind, form = plan[entry]
    word = form[0]
    if word in ("slot", "fields", "pick"):
        return form[1]
    if word == "run":
        return form[1] * (kind[1] - 1) + size(plan, form[2])
    if word == "point":
        return POINT
    return size(plan, form[1])


def part_size(plan, entry, far):
    """How many bits a part of fields or of a pick has."""
    if far:
        return POINT
    return 0 if entry == -1 else size(plan, entry)


def align(plan, entry):
    """Of what number an entry's places are multiples."""
    form = plan[entry][1]
    word = form[0]
    if word == "slot":
        return form[1] if form[1] >= 8 else 1
    if word == "point":
        return POINT
    if word == "run":
        return align(plan, form[2])
    if word == "same":
        return align(plan, form[1])
    aligns = [part_align(plan, inner, far) for at, inner, far in own_parts(form)]
    if word == "pick" and form[4] == -1:
        aligns.append(tag_align(form[3]))
    return max(aligns, default=1)


def part_align(plan, entry, far):
    """Of what number the places of a part of fields or of a pick are multiples."""
    if far:
        return POINT
    return 1 if entry == -1 else align(plan, entry)


def block(plan, entry):
    """How many bytes a block of an entry has."""
    return 8 * max(1, (size(plan, entry) + 63) // 64)


def moved(slots, by):
    """Spare slots further on by so many bits."""
    return [(at + by, wide, first) for at, wide, first in slots]


def part_spares(plan, at, entry, far):
    """The spare slots of a part of fields or of a pick that lies at a place."""
    if far:
        return [(at, POINT, NO_ADDRESS)]
    return [] if entry == -1 else moved(spares(plan, entry), at)


def slot_spares(kind, wide):
    """The spare slots of a slot."""
    bits = bits_in(kind)
    return [(0, wide, power(bits))] if wide > bits else []


def tag_spares(form):
    """The spare slots of a pick: only its tag slot, as its payloads are not always there."""
    at, wide = form[2], form[3]
    first = 1 + max([arm[0] for arm in form[5]])
    return [(at, wide, first)] if wide > 0 and first < power(wide) else []


def spares(plan, entry):
    """The spare slots of an entry, (at, wide, first), in the order of the walk."""
    kind, form = plan[entry]
    word = form[0]
    slots = []
    if word == "slot":
        slots = slot_spares(kind, form[1])
    elif word == "point":
        slots = [(0, POINT, NO_ADDRESS)]
    elif word == "fields":
        for at, inner, far in form[2]:
            slots.extend(part_spares(plan, at, inner, far))
    elif word == "run":
        inner_slots = spares(plan, form[2])
        for number in range(kind[1]):
            slots.extend(moved(inner_slots, number * form[1]))
    elif word == "pick":
        slots = tag_spares(form)
    else:
        slots.extend(spares(plan, form[1]))
    return tuple(slots)


def host_slots(plan, form):
    """The spare slots of the host's part that have the place and the bits of a pick's tag."""
    at, inner, far = own_parts(form)[form[4]]
    return [slot for slot in part_spares(plan, at, inner, far) if slot[0] == form[2] and slot[1] == form[3]]


def entries_named(kind, form):
    """The numbers of entries that a form of the right shape names, one for each part of its kind."""
    word = form[0]
    if word == "slot":
        return []
    if word == "run":
        return [form[2]]
    if word == "point" or word == "same":
        return [form[1]]
    named = [entry for at, entry, far in own_parts(form)]
    return named[1:] if kind[0] == "maybe" else named


def plan_web(plan):
    """The web of a plan's kinds, each with the number of its entry, so that no book is needed."""
    links = [tuple(entries_named(kind, form)) for kind, form in plan]
    return Web(tuple([entry[0] for entry in plan]), links)
