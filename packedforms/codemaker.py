"""Code of places and expressions."""

from packedforms.plans import ROOT
from packedforms.programs import arms_of, sort_of
from packedforms.worths import arm_place


class Compiling:
    """A program while it is compiled: its book, the plan, and the rows of code so far."""

    def __init__(self, book, plan):
        self.book = book
        self.plan = plan
        self.code = []


def left_open(compiling):
    """The number of a new row that is written later, once it is known where it goes."""
    compiling.code.append(None)
    return len(compiling.code) - 1


def lead_here(compiling, number, word):
    """Writes a row that was left open: it goes to the row that comes next."""
    compiling.code[number] = (word, len(compiling.code))


def add_drops(compiling, many):
    """Takes so many truths off the stack."""
    for each in range(many):
        lead_here(compiling, left_open(compiling), "unless")


def add_through(compiling, entry):
    """Goes on through uses and boxes, and tells the entry behind them."""
    code = compiling.code
    form = compiling.plan[entry][1]
    while form[0] in ("same", "point"):
        code.append(("box" if form[0] == "point" else "same", entry))
        entry = form[1]
        form = compiling.plan[entry][1]
    return entry


def add_step(compiling, entry, step):
    """Goes a step from a thing of an entry, and tells the entry to which it leads."""
    kind, form = compiling.plan[entry]
    if step[0] == "at":
        add_expression(compiling, step[1])
        compiling.code.append(("item", entry))
        return form[2]
    if step[0] == "field":
        number = arm_place(kind, step[1])
        compiling.code.append(("field", entry, number))
        return form[2][number][1]
    number = 1 if step[0] == "some" else arm_place(kind, step[1])
    compiling.code.append(("arm", entry, number))
    return form[5][number][2]


def add_place(compiling, place):
    """Goes to a place, and tells its entry."""
    compiling.code.append(("frame",))
    entry = ROOT
    for step in place:
        entry = add_through(compiling, add_step(compiling, entry, step))
    return entry


def add_probe(compiling, place, name):
    """Asks whether an arm is there at a place."""
    entry = add_place(compiling, place)
    number = arms_of(compiling.plan[entry][0]).index(name)
    compiling.code.append(("probe", entry, number))


def add_either(compiling, expression):
    """Reckons an and or an or, the second truth only where the first one leaves it open; tells the sort."""
    code = compiling.code
    add_expression(compiling, expression[1])
    first = left_open(compiling)
    if expression[0] == "and":
        add_expression(compiling, expression[2])
    else:
        code.append(("truth", True))
    last = left_open(compiling)
    lead_here(compiling, first, "unless")
    if expression[0] == "and":
        code.append(("truth", False))
    else:
        add_expression(compiling, expression[2])
    lead_here(compiling, last, "jump")
    return "truth"


def add_expression(compiling, expression):
    """Reckons an expression and tells its sort."""
    word = expression[0]
    code = compiling.code
    if word == "number" or word == "truth":
        code.append(expression)
        return word
    if word == "get":
        entry = add_place(compiling, expression[1])
        code.append(("fetch", entry))
        return sort_of(compiling.plan[entry][0])
    if word == "is":
        add_probe(compiling, expression[1], expression[2])
        return "truth"
    if word == "and" or word == "or":
        return add_either(compiling, expression)
    for inner in expression[1:]:
        add_expression(compiling, inner)
    code.append((word,))
    return "truth" if word in ("less", "like", "not") else "number"
