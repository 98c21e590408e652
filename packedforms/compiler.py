"""The compiler: code over bytes that does what a program does, whatever the plan."""

from packedforms.books import refuse_book
from packedforms.codemaker import Compiling, add_drops, add_expression, add_place, add_probe, lead_here, left_open
from packedforms.codemoves import add_truths, is_shorter_at_once
from packedforms.errors import BadProgram
from packedforms.images import imaged
from packedforms.kinds import alike
from packedforms.plancheck import refuse_plan
from packedforms.plans import ROOT
from packedforms.programs import refuse_program


def add_set(compiling, statement, at):
    """Reckons, goes to the place and keeps it there."""
    add_expression(compiling, statement[2])
    entry = add_place(compiling, statement[1])
    compiling.code.append(("keep", entry))


def add_put(compiling, statement, at):
    """Goes to the place and puts the image of a worth there."""
    entry = add_place(compiling, statement[1])
    image = imaged(compiling.book, compiling.plan, statement[2], entry=entry)
    compiling.code.append(("put", entry, image))


def add_copy(compiling, statement, at):
    """Goes to where it is read, then to the place."""
    add_place(compiling, statement[2])
    entry = add_place(compiling, statement[1])
    compiling.code.append(("copy", entry))


def add_swap(compiling, statement, at):
    """Goes to the place, then to the other."""
    add_place(compiling, statement[1])
    entry = add_place(compiling, statement[2])
    compiling.code.append(("swap", entry))


def add_say(compiling, statement, at):
    """Tells what is reckoned."""
    sort = add_expression(compiling, statement[1])
    compiling.code.append(("say", sort == "truth"))


def add_show(compiling, statement, at):
    """Tells the part at a place."""
    entry = add_place(compiling, statement[1])
    compiling.code.append(("show", entry))


def add_if(compiling, statement, at):
    """Does the rows or the others."""
    add_expression(compiling, statement[1])
    asked = left_open(compiling)
    add_rows(compiling, statement[2], at + (2,))
    last = left_open(compiling)
    lead_here(compiling, asked, "unless")
    add_rows(compiling, statement[3], at + (3,))
    lead_here(compiling, last, "jump")


def add_while(compiling, statement, at):
    """Does its rows and goes back to its own turn, as long as its truth holds."""
    turn = len(compiling.code) - 1
    add_expression(compiling, statement[1])
    asked = left_open(compiling)
    add_rows(compiling, statement[2], at + (2,))
    compiling.code.append(("jump", turn))
    lead_here(compiling, asked, "unless")


def arms_asked(pairs):
    """The numbers of the arms that a pick asks for, and of those that are there where no asked one is.

    The place has to be gone to even where no arm has rows, so one is asked for at least."""
    filled = [number for number, (name, rows) in enumerate(pairs) if len(rows) > 0]
    if len(filled) == len(pairs) > 1:
        return (filled[:-1], filled[-1:])
    return (filled, []) if filled else ([0], [])


def add_pick(compiling, statement, at):
    """Asks arm by arm whether it is there, and does its rows; asks for all behind the first at once if that is
    shorter."""
    place, pairs = statement[1], statement[2]
    asked, rest = arms_asked(pairs)
    names = [pairs[number][0] for number in asked]
    at_once = is_shorter_at_once(compiling, place, names[1:])
    ends = []
    for turn, number in enumerate(asked):
        if turn == 0 or not at_once:
            add_probe(compiling, place, names[turn])
        elif turn == 1:
            add_truths(compiling, place, names[1:])
        other = left_open(compiling)
        if turn > 0 and at_once:
            add_drops(compiling, len(asked) - 1 - turn)
        add_rows(compiling, pairs[number][1], at + (2, number, 1))
        ends.append(left_open(compiling))
        lead_here(compiling, other, "unless")
    for number in rest:
        add_rows(compiling, pairs[number][1], at + (2, number, 1))
    for end in ends:
        lead_here(compiling, end, "jump")


STATEMENTS = {
    "set": add_set,
    "put": add_put,
    "copy": add_copy,
    "swap": add_swap,
    "say": add_say,
    "show": add_show,
    "if": add_if,
    "while": add_while,
    "pick": add_pick,
}


def add_rows(compiling, rows, at):
    """Does statements in order, each behind its own turn."""
    for number, statement in enumerate(rows):
        here = at + (number,)
        compiling.code.append(("turn", here))
        add = STATEMENTS[statement[0]]
        add(compiling, statement, here)


def compiled(book, plan, program):
    """The code of a program over a plan of its frame."""
    refuse_book(book)
    refuse_plan(book, plan)
    refuse_program(book, program)
    if not alike(plan[ROOT][0], program[0]):
        raise BadProgram((0,), "plan")
    compiling = Compiling(book, plan)
    add_rows(compiling, program[1], (1,))
    compiling.code.append(("end",))
    return tuple(compiling.code)
