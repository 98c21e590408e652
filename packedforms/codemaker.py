"""Code of places and expressions, and numbers that are made known so that they needn't be reckoned again."""

from packedforms.plans import ROOT
from packedforms.programs import arms_of, sort_of
from packedforms.worths import arm_place

# At most so many truths tell the numbers that are made known, so that there are few ways through them.
MOST_TRUTHS = 6

# How many rows, beside those of the expression itself, tell a digit of a number, and take a number off its stack.
DIGIT_ROWS = 6
DROP_ROWS = 3


class Compiling:
    """A program while it is compiled: its book, the plan, and the rows of code so far."""

    def __init__(self, book, plan):
        self.book = book
        self.plan = plan
        self.code = []


class Known:
    """At steps of a place whose numbers are on the stack once for each further time that the place is gone to.

    A row of steps is (number of the step, its expression, how many truths tell its number)."""

    def __init__(self, steps, times):
        self.steps = steps
        self.numbers = [step[0] for step in steps]
        self.times = times


def left_open(compiling):
    """The number of a new row that is written later, once it is known where it goes."""
    compiling.code.append(None)
    return len(compiling.code) - 1


def lead_here(compiling, number, word):
    """Writes a row that was left open: it goes to the row that comes next."""
    compiling.code[number] = (word, len(compiling.code))


def add_through(compiling, entry):
    """Goes on through uses and boxes, and tells the entry behind them."""
    code = compiling.code
    form = compiling.plan[entry][1]
    while form[0] in ("same", "point"):
        code.append(("box" if form[0] == "point" else "same", entry))
        entry = form[1]
        form = compiling.plan[entry][1]
    return entry


def add_step(compiling, entry, step, is_known):
    """Goes a step from a thing of an entry, and tells the entry to which it leads; a known number is there already."""
    kind, form = compiling.plan[entry]
    if step[0] == "at":
        if not is_known:
            add_expression(compiling, step[1])
        compiling.code.append(("item", entry))
        return form[2]
    if step[0] == "field":
        number = arm_place(kind, step[1])
        compiling.code.append(("field", entry, number))
        return form[2][number][1]
    number = 1 if step[0] == "some" else arm_place(kind, step[1])
    compiling.code.append(("arm", entry, number))
    return form[5][number][2]


def add_place(compiling, place, known):
    """Goes to a place, and tells its entry; known are the numbers of the steps whose numbers are on the stack."""
    compiling.code.append(("frame",))
    entry = ROOT
    for number, step in enumerate(place):
        entry = add_through(compiling, add_step(compiling, entry, step, number in known))
    return entry


def add_probe(compiling, place, known, name):
    """Asks whether an arm is there at a place."""
    entry = add_place(compiling, place, known)
    number = arms_of(compiling.plan[entry][0]).index(name)
    compiling.code.append(("probe", entry, number))


def add_either(compiling, expression):
    """Reckons an and or an or, the second truth only where the first one leaves it open; tells the sort."""
    code = compiling.code
    add_expression(compiling, expression[1])
    first = left_open(compiling)
    if expression[0] == "and":
        add_expression(compiling, expression[2])
    else:
        code.append(("truth", True))
    last = left_open(compiling)
    lead_here(compiling, first, "unless")
    if expression[0] == "and":
        code.append(("truth", False))
    else:
        add_expression(compiling, expression[2])
    lead_here(compiling, last, "jump")
    return "truth"


def add_expression(compiling, expression):
    """Reckons an expression and tells its sort."""
    word = expression[0]
    code = compiling.code
    if word == "number" or word == "truth":
        code.append(expression)
        return word
    if word == "get":
        entry = add_place(compiling, expression[1], ())
        code.append(("fetch", entry))
        return sort_of(compiling.plan[entry][0])
    if word == "is":
        add_probe(compiling, expression[1], (), expression[2])
        return "truth"
    if word == "and" or word == "or":
        return add_either(compiling, expression)
    for inner in expression[1:]:
        add_expression(compiling, inner)
    code.append((word,))
    return "truth" if word in ("less", "like", "not") else "number"


def at_steps(compiling, place):
    """The at steps of a place: (number of the step, expression, how many truths tell its number)."""
    trial = Compiling(compiling.book, compiling.plan)
    trial.code.append(("frame",))
    rows = []
    entry = ROOT
    for number, step in enumerate(place):
        if step[0] == "at":
            rows.append((number, step[1], (compiling.plan[entry][0][1] - 1).bit_length()))
        entry = add_through(trial, add_step(trial, entry, step, True))
    return rows


def saved_rows(compiling, step, times):
    """By how many rows code is shorter if the number of an at step is made known ahead of so many goings."""
    trial = Compiling(compiling.book, compiling.plan)
    add_expression(trial, step[1])
    rows = len(trial.code)
    return (times - step[2]) * rows - step[2] * DIGIT_ROWS


def ways_cost(steps, times):
    """How many rows it takes to tell the numbers of these steps by their truths, and to take off what is left."""
    ways = 1 << sum([step[2] for step in steps])
    return ways * (len(steps) * times + 2) + len(steps) * times * DROP_ROWS


def worth_knowing(compiling, place, times):
    """Those at steps of a place, to which one goes so many times more, that make code shortest if they are known."""
    saved = [(saved_rows(compiling, step, times), step) for step in at_steps(compiling, place)]
    saved = sorted([row for row in saved if row[0] > 0], key=lambda row: -row[0])
    best = []
    most = 0
    for many in range(1, len(saved) + 1):
        steps = [step for rows, step in saved[:many]]
        gain = sum([rows for rows, step in saved[:many]]) - ways_cost(steps, times)
        if gain > most and sum([step[2] for step in steps]) <= MOST_TRUTHS:
            best = steps
            most = gain
    return Known(sorted(best, key=lambda step: step[0]), times)


def add_digit(compiling, expression, digit):
    """Puts the truth whether a binary digit of a number is 1."""
    add_expression(compiling, expression)
    compiling.code.extend([("number", 1 << digit), ("div",), ("number", 2), ("rem",), ("number", 1), ("like",)])


def add_ways(compiling, known, digits, found, ends):
    """Takes the truths of these digits, (number of the step, digit), off the stack, the last one first, and puts all
    known numbers there; found are the numbers as far as they are told on this way."""
    if not digits:
        for each in range(known.times):
            compiling.code.extend([("number", found[number]) for number in known.numbers[::-1]])
        ends.append(left_open(compiling))
        return
    number, digit = digits[-1]
    other = left_open(compiling)
    more = {step: found[step] for step in found}
    more[number] += 1 << digit
    add_ways(compiling, known, digits[:-1], more, ends)
    lead_here(compiling, other, "unless")
    add_ways(compiling, known, digits[:-1], found, ends)


def add_known(compiling, known):
    """Puts the numbers of at steps on the stack as often as they are wanted.

    Nothing on the stack can be doubled, so each number is reckoned once for each of its digits, and told again by the
    way that is gone."""
    digits = []
    for number, expression, truths in known.steps:
        for digit in range(truths):
            add_digit(compiling, expression, digit)
            digits.append((number, digit))
    ends = []
    add_ways(compiling, known, digits, {number: 0 for number in known.numbers}, ends)
    for end in ends:
        lead_here(compiling, end, "jump")


def add_drop(compiling, known):
    """Takes the known numbers of one going off the stack."""
    for each in known.numbers:
        compiling.code.extend([("number", 0), ("like",)])
        lead_here(compiling, left_open(compiling), "unless")
