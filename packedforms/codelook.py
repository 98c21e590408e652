"""The look at code over bytes: whether it can never be stuck, and if it may be, its first fault."""

from packedforms.images import imagefault
from packedforms.kinds import is_between, is_tuple_of, is_whole, power
from packedforms.plancheck import planfault
from packedforms.plans import ROOT
from packedforms.programs import sort_of, word_of

MOST_ROWS = 50000

# What each row has behind its word.
ROW_THINGS = {
    "turn": ("place",),
    "number": ("n",),
    "truth": ("t",),
    "add": (),
    "sub": (),
    "mul": (),
    "div": (),
    "rem": (),
    "less": (),
    "like": (),
    "not": (),
    "jump": ("whole",),
    "unless": ("whole",),
    "frame": (),
    "field": ("whole", "whole"),
    "item": ("whole",),
    "arm": ("whole", "whole"),
    "box": ("whole",),
    "same": ("whole",),
    "probe": ("whole", "whole"),
    "fetch": ("whole",),
    "keep": ("whole",),
    "say": ("t",),
    "show": ("whole",),
    "put": ("whole", "any"),
    "copy": ("whole",),
    "swap": ("whole",),
    "end": (),
}

# The form that an entry has which a row of such a word names; other words take any entry.
ENTRY_FORMS = {
    "field": "fields",
    "item": "run",
    "arm": "pick",
    "probe": "pick",
    "box": "point",
    "same": "same",
    "fetch": "slot",
    "keep": "slot",
}
WHOLE_WORDS = ("show", "put", "copy", "swap")

# What rows that name no entry take off the stack of sorts, the top one first, and what they put there.
SORT_DEEDS = {
    "turn": ((), ()),
    "number": ((), ("number",)),
    "truth": ((), ("truth",)),
    "add": (("number", "number"), ("number",)),
    "sub": (("number", "number"), ("number",)),
    "mul": (("number", "number"), ("number",)),
    "div": (("number", "number"), ("number",)),
    "rem": (("number", "number"), ("number",)),
    "less": (("number", "number"), ("truth",)),
    "not": (("truth",), ("truth",)),
    "jump": ((), ()),
    "unless": (("truth",), ()),
    "frame": ((), ()),
    "end": ((), ()),
}

# Behind these, blocks may lie elsewhere, so that no place may be left on its stack.
MOVING_WORDS = ("put", "copy", "swap")


class Stacks:
    """All stacks met so far, each known by its number: what is on its top, and the number of the stack below that."""

    def __init__(self):
        self.tops = [None]
        self.belows = [0]
        self.known = {}


class Look:
    """Code while it is looked at: its plan, its rows, all stacks, and the two stacks that each row was handed."""

    def __init__(self, plan, code):
        self.plan = plan
        self.code = code
        self.stacks = Stacks()
        self.handed = [None for row in code]


class Deed:
    """What a row takes off both stacks, the top one first, and what it puts there."""

    def __init__(self, sorts, entries, new_sorts, new_entries):
        self.sorts = sorts
        self.entries = entries
        self.new_sorts = new_sorts
        self.new_entries = new_entries


def pushed(stacks, stack, tops):
    """The number of a stack with these things put on it, one by one."""
    for top in tops:
        if (stack, top) not in stacks.known:
            stacks.known[(stack, top)] = len(stacks.tops)
            stacks.tops.append(top)
            stacks.belows.append(stack)
        stack = stacks.known[(stack, top)]
    return stack


def popped(stacks, stack, tops):
    """The number of a stack from which these things were taken, one by one, or None where others are there."""
    for top in tops:
        if stack == 0 or stacks.tops[stack] != top:
            return None
        stack = stacks.belows[stack]
    return stack


def thing_right(thing, due):
    """Whether a thing of a row is such as is due there."""
    if due == "whole":
        return is_whole(thing)
    if due == "n":
        return is_between(thing, -power(64), power(64))
    if due == "t":
        return isinstance(thing, bool)
    if due == "place":
        return isinstance(thing, tuple) and all([is_whole(number) for number in thing])
    return True


def row_right(row):
    """Whether a thing has the form of a row of code."""
    word = word_of(row)
    if word not in ROW_THINGS or not is_tuple_of(row, len(ROW_THINGS[word]) + 1):
        return False
    return all([thing_right(thing, due) for thing, due in zip(row[1:], ROW_THINGS[word])])


def entry_right(plan, row):
    """Whether a row names such an entry, with such a field, arm or image, as its word takes."""
    word = row[0]
    if word not in ENTRY_FORMS and word not in WHOLE_WORDS:
        return True
    if not 0 <= row[1] < len(plan):
        return False
    form = plan[row[1]][1]
    if word in ENTRY_FORMS and form[0] != ENTRY_FORMS[word]:
        return False
    if word == "field":
        return 0 <= row[2] < len(form[2])
    if word == "probe":
        return 0 <= row[2] < len(form[5])
    if word == "arm":
        return 0 <= row[2] < len(form[5]) and form[5][row[2]][2] != -1
    return word != "put" or imagefault(plan, row[2], entry=row[1]) is None


def inner_entry(form, row):
    """The entry of the place to which a field, item, arm, box or same row goes."""
    if row[0] == "field":
        return form[2][row[2]][1]
    if row[0] == "item":
        return form[2]
    if row[0] == "arm":
        return form[5][row[2]][2]
    return form[1]


def entry_deed(plan, row):
    """What a row takes and puts that names an entry."""
    word = row[0]
    entry = row[1]
    kind, form = plan[entry]
    if word in ("field", "arm", "box", "same"):
        return Deed((), (entry,), (), (inner_entry(form, row),))
    if word == "item":
        return Deed(("number",), (entry,), (), (inner_entry(form, row),))
    if word == "probe":
        return Deed((), (entry,), ("truth",), ())
    if word == "fetch":
        return Deed((), (entry,), (sort_of(kind),), ())
    if word == "keep":
        return Deed((sort_of(kind),), (entry,), (), ())
    if word == "copy" or word == "swap":
        return Deed((), (entry, entry), (), ())
    return Deed((), (entry,), (), ())


def deed_of(look, row, sorts):
    """What a row takes and puts that is handed this stack of sorts."""
    word = row[0]
    if word in ENTRY_FORMS or word in WHOLE_WORDS:
        return entry_deed(look.plan, row)
    if word == "say":
        return Deed(("truth" if row[1] else "number",), (), (), ())
    if word == "like":
        top = look.stacks.tops[sorts]
        return Deed((top, top), (), ("truth",), ())
    taken, put = SORT_DEEDS[word]
    return Deed(taken, (), put, (ROOT,) if word == "frame" else ())


def stacks_behind(look, number):
    """The two stacks that a row hands on, or None where it isn't handed what it takes."""
    sorts, entries = look.handed[number]
    row = look.code[number]
    deed = deed_of(look, row, sorts)
    sorts = popped(look.stacks, sorts, deed.sorts)
    entries = popped(look.stacks, entries, deed.entries)
    if sorts is None or entries is None:
        return None
    if row[0] in MOVING_WORDS and entries != 0:
        return None
    return (pushed(look.stacks, sorts, deed.new_sorts), pushed(look.stacks, entries, deed.new_entries))


def goals_of(row, number):
    """The rows that may be done next: the one that a row names ahead of the one behind it."""
    if row[0] == "end":
        return ()
    if row[0] == "jump":
        return (row[1],)
    if row[0] == "unless":
        return (row[1], number + 1)
    return (number + 1,)


def goal_right(code, number, goal):
    """Whether a row may be gone to: it is there, and who goes back takes a turn."""
    if not 0 <= goal < len(code):
        return False
    return goal > number or code[goal][0] == "turn"


def row_fault(look, number):
    """The word for what is wrong with a row of the right form, or None; hands its stacks on."""
    row = look.code[number]
    if look.handed[number] is None:
        return "lost"
    if not entry_right(look.plan, row):
        return "entry"
    behind = stacks_behind(look, number)
    if behind is None:
        return "stack"
    goals = goals_of(row, number)
    if not all([goal_right(look.code, number, goal) for goal in goals]):
        return "jump"
    for goal in goals:
        if look.handed[goal] is None:
            look.handed[goal] = behind
        if look.handed[goal] != behind:
            return "unlike"
    return None


def code_fault(plan, code):
    """The first fault of a thing as code, (row, why), or None; the plan is known to hold."""
    if not isinstance(code, tuple) or not 1 <= len(code) <= MOST_ROWS:
        return (-1, "code")
    for number, row in enumerate(code):
        if not row_right(row):
            return (number, "form")
    look = Look(plan, code)
    look.handed[0] = (0, 0)
    for number in range(len(code)):
        why = row_fault(look, number)
        if why is not None:
            return (number, why)
    return None


def codefault(book, plan, code):
    """None where any written thing is code over a plan's bytes, else its first fault, (row, why)."""
    if planfault(book, plan) is not None:
        return (-1, "plan")
    return code_fault(plan, code)
