"""The look at plans: whether one holds, and if not, its first fault."""

from packedforms.books import bookfault, closed_fault, parts_of
from packedforms.errors import BadPlan
from packedforms.kinds import PLAIN_WORDS, is_between, is_tuple_of, is_whole, power, shown
from packedforms.plans import MOST_SIZE, SLOT_WIDES, align, bits_in, entries_named, host_slots, own_parts, part_align
from packedforms.plans import part_size, size, tag_align
from packedforms.reaches import MOST_KINDS, standing_fault
from packedforms.webs import met_kinds

MOST_TAG = 8
MOST_HOSTED_TAG = 64
# The order in which all entries are looked at once their forms and parts are right.
LATE_WORDS = ("host", "wide", "align", "size", "spare", "clear", "code")


def from_on(thing, least):
    """Whether it is a whole number not below least."""
    return is_whole(thing) and thing >= least


def is_row(thing, leasts):
    """Whether it is a tuple of whole numbers, each not below its least, and last a truth."""
    if not is_tuple_of(thing, len(leasts) + 1) or not isinstance(thing[-1], bool):
        return False
    return all([from_on(number, least) for number, least in zip(thing, leasts)])


def are_rows(thing, many, leasts):
    """Whether it is a tuple of so many such rows."""
    return is_tuple_of(thing, many) and all([is_row(row, leasts) for row in thing])


def begins(form, word, leasts):
    """Whether a form has this word and then whole numbers, each not below its least."""
    if not isinstance(form, tuple) or len(form) <= len(leasts) or form[0] != word:
        return False
    return all([from_on(number, least) for number, least in zip(form[1:], leasts)])


def is_form(form, word, leasts):
    """Whether a form is this word and such whole numbers, nothing else."""
    return begins(form, word, leasts) and len(form) == len(leasts) + 1


def is_pick(form, arms):
    """Whether a form is that of a pick of so many arms."""
    if not begins(form, "pick", (0, 0, 0, -1)) or len(form) != 6:
        return False
    return are_rows(form[5], arms, (-1, 0, -1))


def form_right(kind, form):
    """Whether a form has such a shape as its kind asks for."""
    word = kind[0]
    if word in PLAIN_WORDS:
        return is_form(form, "slot", (0,))
    if word == "record":
        return begins(form, "fields", (0,)) and len(form) == 3 and are_rows(form[2], len(kind[1]), (0, 0))
    if word == "row":
        return is_form(form, "run", (0, 0))
    if word == "variant":
        return is_pick(form, len(kind[1]))
    if word == "maybe":
        return is_pick(form, 2) and form[5][0][2] == -1 and form[5][0][3] is False
    return is_form(form, "point" if word == "box" else "same", (0,))


def kind_stands(book, thing, standing):
    """Whether a thing is a kind that stands; standing gets the texts of all kinds that are known to."""
    if closed_fault(book, thing) is not None:
        return False
    if shown(thing) in standing:
        return True
    if standing_fault(book, thing) is not None:
        return False
    # Whatever a kind that stands reaches stands too.
    for kind in met_kinds(book, thing, MOST_KINDS):
        standing[shown(kind)] = True
    return True


def kinds_fault(book, plan):
    """The first fault of a plan's entries as pairs and of their kinds."""
    standing = {}
    texts = {}
    for number, thing in enumerate(plan):
        if not is_tuple_of(thing, 2):
            return (number, "entry")
        if not kind_stands(book, thing[0], standing):
            return (number, "kind")
        text = shown(thing[0])
        if text in texts:
            return (number, "twice")
        texts[text] = True
    return None


def forms_fault(book, plan):
    """The first fault of the shapes of forms and of the entries that they name."""
    numbers = {shown(plan[number][0]): number for number in range(len(plan))}
    for number, (kind, form) in enumerate(plan):
        if not form_right(kind, form):
            return (number, "form")
        due = [numbers.get(shown(part), -1) for part in parts_of(book, kind)]
        # A part without an entry is due as -1, which a form may name too.
        if -1 in due or due != entries_named(kind, form):
            return (number, "part")
    return None


def host_wrong(plan, entry):
    """Whether a pick's host is no arm that may be one."""
    form = plan[entry][1]
    if form[0] != "pick" or form[4] == -1:
        return False
    return len(form[5]) < 2 or form[4] >= len(form[5])


def wide_wrong(plan, entry):
    """Whether a slot or a tag has a number of bits that it may not have."""
    kind, form = plan[entry]
    if form[0] == "slot":
        bits = bits_in(kind)
        if bits < 8 and form[1] == bits:
            return False
        return form[1] < bits or form[1] not in SLOT_WIDES
    if form[0] == "pick":
        return form[3] > (MOST_TAG if form[4] == -1 else MOST_HOSTED_TAG)
    return False


def has_own_tag(form):
    """Whether a form is a pick whose tag has bits of its own."""
    return form[0] == "pick" and form[4] == -1


def align_wrong(plan, entry):
    """Whether a part, a tag or the things of a run lie where their align doesn't let them."""
    form = plan[entry][1]
    if form[0] == "run":
        return form[1] % align(plan, form[2]) != 0
    if form[0] not in ("fields", "pick"):
        return False
    if has_own_tag(form) and form[2] % tag_align(form[3]) != 0:
        return True
    return any([at % part_align(plan, inner, far) != 0 for at, inner, far in own_parts(form)])


def size_wrong(plan, entry):
    """Whether an entry is too great, or what is in it goes beyond its end."""
    form = plan[entry][1]
    bits = size(plan, entry)
    if bits > MOST_SIZE:
        return True
    if form[0] == "run":
        return form[1] < size(plan, form[2]) or form[1] > MOST_SIZE
    if form[0] not in ("fields", "pick"):
        return False
    if has_own_tag(form) and form[2] + form[3] > bits:
        return True
    return any([at + part_size(plan, inner, far) > bits for at, inner, far in own_parts(form)])


def spare_wrong(plan, entry):
    """Whether a pick's tag slot is no spare slot of its host."""
    form = plan[entry][1]
    if form[0] != "pick" or form[4] == -1:
        return False
    return not host_slots(plan, form)


def share_bit(one, other):
    """Whether two stretches (at, bits) have a bit together."""
    if one[1] == 0 or other[1] == 0:
        return False
    return one[0] < other[0] + other[1] and other[0] < one[0] + one[1]


def clear_wrong(plan, entry):
    """Whether two fields share a bit, or a tag slot and a part other than its host's."""
    form = plan[entry][1]
    if form[0] not in ("fields", "pick"):
        return False
    stretches = [(at, part_size(plan, inner, far)) for at, inner, far in own_parts(form)]
    if form[0] == "pick":
        tag = (form[2], form[3])
        return any([number != form[4] and share_bit(tag, part) for number, part in enumerate(stretches)])
    pairs = [(one, other) for number, one in enumerate(stretches) for other in stretches[:number]]
    return any([share_bit(one, other) for one, other in pairs])


def code_wrong(plan, entry):
    """Whether a pick's codes don't tell its arms from one another."""
    form = plan[entry][1]
    if form[0] != "pick":
        return False
    host = form[4]
    codes = [arm[0] for number, arm in enumerate(form[5]) if number != host]
    first = 0
    if host != -1:
        first = host_slots(plan, form)[0][2]
        if form[5][host][0] != -1:
            return True
    last = power(form[3]) - 1
    return not all([is_between(code, first, last) for code in codes]) or len(set(codes)) != len(codes)


LATE_LOOKS = {
    "host": host_wrong,
    "wide": wide_wrong,
    "align": align_wrong,
    "size": size_wrong,
    "spare": spare_wrong,
    "clear": clear_wrong,
    "code": code_wrong,
}


def late_fault(plan):
    """The first fault by the words that go through all entries one after another."""
    for word in LATE_WORDS:
        wrong = LATE_LOOKS[word]
        for entry in range(len(plan)):
            if wrong(plan, entry):
                return (entry, word)
    return None


def planfault(book, plan):
    """None where any written thing is a plan that holds, else its first fault, (entry, why)."""
    if bookfault(book) is not None:
        return (-1, "book")
    if not isinstance(plan, tuple) or not 1 <= len(plan) <= MOST_KINDS:
        return (-1, "plan")
    fault = kinds_fault(book, plan)
    if fault is None:
        fault = forms_fault(book, plan)
    if fault is None:
        fault = late_fault(plan)
    return fault


def refuse_plan(book, plan):
    """Refuses a plan that doesn't hold."""
    fault = planfault(book, plan)
    if fault is not None:
        raise BadPlan(fault[0], fault[1])
