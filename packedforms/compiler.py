"""The compiler: code over bytes that does what a program does, whatever the plan."""

from packedforms.books import refuse_book
from packedforms.errors import BadProgram
from packedforms.images import imaged
from packedforms.kinds import alike
from packedforms.plancheck import refuse_plan
from packedforms.plans import ROOT
from packedforms.programs import arms_of, refuse_program, sort_of
from packedforms.worths import arm_place


class Compiling:
    """A program while it is compiled: its book, the plan, and the rows of code so far."""

    def __init__(self, book, plan):
        self.book = book
        self.plan = plan
        self.code = []


def left_open(compiling):
    """The number of a new row that is written later, once it is known where it goes."""
    compiling.code.append(None)
    return len(compiling.code) - 1


def lead_here(compiling, number, word):
    """Writes a row that was left open: it goes to the row that comes next."""
    compiling.code[number] = (word, len(compiling.code))


def add_through(compiling, entry):
    """Goes on through uses and boxes, and tells the entry behind them."""
    code = compiling.code
    form = compiling.plan[entry][1]
    while form[0] in ("same", "point"):
        code.append(("box" if form[0] == "point" else "same", entry))
        entry = form[1]
        form = compiling.plan[entry][1]
    return entry


def add_step(compiling, entry, step):
    """Goes a step from a thing of an entry, and tells the entry to which it leads."""
    kind, form = compiling.plan[entry]
    if step[0] == "at":
        add_expression(compiling, step[1])
        compiling.code.append(("item", entry))
        return form[2]
    if step[0] == "field":
        number = arm_place(kind, step[1])
        compiling.code.append(("field", entry, number))
        return form[2][number][1]
    number = 1 if step[0] == "some" else arm_place(kind, step[1])
    compiling.code.append(("arm", entry, number))
    return form[5][number][2]


def add_place(compiling, place):
    """Goes to a place, and tells its entry."""
    compiling.code.append(("frame",))
    entry = ROOT
    for step in place:
        entry = add_through(compiling, add_step(compiling, entry, step))
    return entry


def add_probe(compiling, place, name):
    """Asks whether an arm is there at a place."""
    entry = add_place(compiling, place)
    number = arms_of(compiling.plan[entry][0]).index(name)
    compiling.code.append(("probe", entry, number))


def add_either(compiling, expression):
    """Reckons an and or an or, the second truth only where the first one leaves it open; tells the sort."""
    code = compiling.code
    add_expression(compiling, expression[1])
    first = left_open(compiling)
    if expression[0] == "and":
        add_expression(compiling, expression[2])
    else:
        code.append(("truth", True))
    last = left_open(compiling)
    lead_here(compiling, first, "unless")
    if expression[0] == "and":
        code.append(("truth", False))
    else:
        add_expression(compiling, expression[2])
    lead_here(compiling, last, "jump")
    return "truth"


def add_expression(compiling, expression):
    """Reckons an expression and tells its sort."""
    word = expression[0]
    code = compiling.code
    if word == "number" or word == "truth":
        code.append(expression)
        return word
    if word == "get":
        entry = add_place(compiling, expression[1])
        code.append(("fetch", entry))
        return sort_of(compiling.plan[entry][0])
    if word == "is":
        add_probe(compiling, expression[1], expression[2])
        return "truth"
    if word == "and" or word == "or":
        return add_either(compiling, expression)
    for inner in expression[1:]:
        add_expression(compiling, inner)
    code.append((word,))
    return "truth" if word in ("less", "like", "not") else "number"


def add_set(compiling, statement, at):
    """Reckons, goes to the place and keeps it there."""
    add_expression(compiling, statement[2])
    entry = add_place(compiling, statement[1])
    compiling.code.append(("keep", entry))


def add_put(compiling, statement, at):
    """Goes to the place and puts the image of a worth there."""
    entry = add_place(compiling, statement[1])
    image = imaged(compiling.book, compiling.plan, statement[2], entry=entry)
    compiling.code.append(("put", entry, image))


def add_copy(compiling, statement, at):
    """Goes to where it is read, then to the place."""
    add_place(compiling, statement[2])
    entry = add_place(compiling, statement[1])
    compiling.code.append(("copy", entry))


def add_swap(compiling, statement, at):
    """Goes to the place, then to the other."""
    add_place(compiling, statement[1])
    entry = add_place(compiling, statement[2])
    compiling.code.append(("swap", entry))


def add_say(compiling, statement, at):
    """Tells what is reckoned."""
    sort = add_expression(compiling, statement[1])
    compiling.code.append(("say", sort == "truth"))


def add_show(compiling, statement, at):
    """Tells the part at a place."""
    entry = add_place(compiling, statement[1])
    compiling.code.append(("show", entry))


def add_if(compiling, statement, at):
    """Does the rows or the others."""
    add_expression(compiling, statement[1])
    asked = left_open(compiling)
    add_rows(compiling, statement[2], at + (2,))
    last = left_open(compiling)
    lead_here(compiling, asked, "unless")
    add_rows(compiling, statement[3], at + (3,))
    lead_here(compiling, last, "jump")


def add_while(compiling, statement, at):
    """Does its rows and goes back to its own turn, as long as its truth holds."""
    turn = len(compiling.code) - 1
    add_expression(compiling, statement[1])
    asked = left_open(compiling)
    add_rows(compiling, statement[2], at + (2,))
    compiling.code.append(("jump", turn))
    lead_here(compiling, asked, "unless")


def add_pick(compiling, statement, at):
    """Asks arm by arm whether it is there, and does its rows."""
    pairs = statement[2]
    # A place is gone to anew for each asking, so only as many arms are asked for as it takes.
    asked = [number for number, (name, rows) in enumerate(pairs) if len(rows) > 0]
    rest = []
    if len(asked) == len(pairs) > 1:
        rest = [asked.pop()]
    elif not asked:
        asked = [0]
    ends = []
    for number in asked:
        add_probe(compiling, statement[1], pairs[number][0])
        other = left_open(compiling)
        add_rows(compiling, pairs[number][1], at + (2, number, 1))
        ends.append(left_open(compiling))
        lead_here(compiling, other, "unless")
    for number in rest:
        add_rows(compiling, pairs[number][1], at + (2, number, 1))
    for number in ends:
        lead_here(compiling, number, "jump")


STATEMENTS = {
    "set": add_set,
    "put": add_put,
    "copy": add_copy,
    "swap": add_swap,
    "say": add_say,
    "show": add_show,
    "if": add_if,
    "while": add_while,
    "pick": add_pick,
}


def add_rows(compiling, rows, at):
    """Does statements in order, each behind its own turn."""
    for number, statement in enumerate(rows):
        here = at + (number,)
        compiling.code.append(("turn", here))
        add = STATEMENTS[statement[0]]
        add(compiling, statement, here)


def compiled(book, plan, program):
    """The code of a program over a plan of its frame."""
    refuse_book(book)
    refuse_plan(book, plan)
    refuse_program(book, program)
    if not alike(plan[ROOT][0], program[0]):
        raise BadProgram((0,), "plan")
    compiling = Compiling(book, plan)
    add_rows(compiling, program[1], (1,))
    compiling.code.append(("end",))
    return tuple(compiling.code)
