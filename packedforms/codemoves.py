"""Code that asks for many arms at one place, without reckoning the numbers on the way there anew for each of them.

Nothing on the stacks can be doubled, and going to a place takes its numbers off. So the things of rows through which
the way leads are swapped with the first things of their rows, to which one goes without reckoning, and are swapped back
behind the last asking. The place was gone to ahead of that, all numbers are reckoned ahead of the first swap, and two
things of one row have as many boxes around them; so nothing can end while things are moved, and nothing is read
meanwhile but the arms."""

from packedforms.codemaker import Compiling, add_drops, add_expression, add_probe, add_step, add_through, lead_here
from packedforms.codemaker import left_open
from packedforms.plans import ROOT

# What stands for the expression of an at step that leads to the first thing of a row, and of one whose number is on the
# stack already.
FIRST = ("number", 0)
ON_STACK = None


def stretches(place):
    """The stretches of a place that end with an at step, (start, end), each as long as may be.

    Behind the first at step of a stretch there are but at and field steps, which can be gone from any thing of a row;
    so the first things are sure to be there."""
    found = []
    start = 0
    end = 0
    for number, step in enumerate(place):
        if step[0] == "at":
            end = number + 1
        elif step[0] != "field" and end > start:
            found.append((start, end))
            start = end
    return found + [(start, end)] if end > start else found


def way_of(place, start, end):
    """The steps of a place up to an end: at steps from the start on find their numbers on the stack, those ahead of it
    lead to first things."""
    return tuple([
        ("at", ON_STACK if number >= start else FIRST) if step[0] == "at" else step
        for number, step in enumerate(place[:end])
    ])


def add_numbers(compiling, place, start, end):
    """Reckons the numbers of the at steps from a start to an end, so that the first one is on the top of the stack."""
    for step in place[start:end][::-1]:
        if step[0] == "at":
            add_expression(compiling, step[1])


def add_item_below(compiling, entry, truths):
    """Goes to a thing of a row by a number that lies below so many truths, of which one holds at most.

    The truths are taken off ahead of that; the way that is gone tells them, and each way puts them back."""
    ends = []
    for holding in reversed(range(truths)):
        other = left_open(compiling)
        add_drops(compiling, holding)
        compiling.code.append(("item", entry))
        compiling.code.extend([("truth", number == holding) for number in range(truths)])
        ends.append(left_open(compiling))
        lead_here(compiling, other, "unless")
    compiling.code.append(("item", entry))
    compiling.code.extend([("truth", False) for number in range(truths)])
    for end in ends:
        lead_here(compiling, end, "jump")


def add_thing(compiling, way, truths):
    """Goes to a thing of a row, but not through its uses and boxes, and tells its entry; the numbers that are on the
    stack lie below so many truths."""
    compiling.code.append(("frame",))
    entry = ROOT
    for step in way:
        entry = add_through(compiling, entry)
        if step == ("at", ON_STACK):
            add_item_below(compiling, entry, truths)
            entry = compiling.plan[entry][1][2]
        else:
            entry = add_step(compiling, entry, step)
    return entry


def add_move(compiling, place, stretch, truths):
    """Swaps the thing to which a stretch leads with that to which it leads by first things; the stretches ahead of it
    lead by first things already."""
    start, end = stretch
    add_thing(compiling, way_of(place, start, end), truths)
    entry = add_thing(compiling, way_of(place, end, end), truths)
    compiling.code.append(("swap", entry))


def add_truths(compiling, place, names):
    """Asks for all these arms at a place that was gone to already, and puts the first one's truth on the top."""
    moves = stretches(place)
    # What is moved last is moved back first, so its numbers lie above those of the others.
    for start, end in moves:
        add_numbers(compiling, place, start, end)
    add_numbers(compiling, place, 0, len(place))
    for stretch in moves:
        add_move(compiling, place, stretch, 0)
    for name in names[::-1]:
        add_probe(compiling, way_of(place, len(place), len(place)), name)
    for stretch in moves[::-1]:
        add_move(compiling, place, stretch, len(names))


def is_shorter_at_once(compiling, place, names):
    """Whether it takes fewer rows to ask for all these arms at once than to go to the place for each of them.

    Where it does, a pick reckons its numbers three times, however many arms it has; that keeps the code of each program
    below the most rows that code may have."""
    one_by_one = Compiling(compiling.book, compiling.plan)
    for name in names:
        add_probe(one_by_one, place, name)
    at_once = Compiling(compiling.book, compiling.plan)
    add_truths(at_once, place, names)
    # Behind the truth that holds, all those below it are dropped.
    drops = len(names) * (len(names) - 1) // 2
    return len(at_once.code) + drops < len(one_by_one.code)
