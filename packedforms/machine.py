"""The machine: code that runs over the bytes of a root of a store."""

from packedforms.blocks import part_number, part_rows, part_sheets, write_bits, write_part
from packedforms.codelook import code_fault
from packedforms.errors import BadCode, Full
from packedforms.images import arm_there, image_sheets, points_of, sheets_worth, walk_over
from packedforms.kinds import is_between
from packedforms.needs import MOST_BOXES, MOST_WORTH
from packedforms.plans import POINT, ROOT, size
from packedforms.store import refuse_unknown
from packedforms.sums import Ended, two_reckoned
from packedforms.walker import TURNS, take_turn
from packedforms.worths import coded, decoded, plain_fits


class Machine:
    """A run: the bytes, the root, both stacks, the number of the next row, and what was told and taken so far.

    A place on its stack is (address, bit, boxes gone through on the way)."""

    def __init__(self, heap, handle, turns):
        self.heap = heap
        self.handle = handle
        self.turns = turns
        self.taken = 0
        self.answers = []
        self.place = ()
        self.numbers = []
        self.places = []
        self.following = 0


def form_at(machine, entry):
    """The form of an entry of the store's plan."""
    return machine.heap.plan[entry][1]


def led(machine, place):
    """Where the point at a place leads."""
    address, at, boxes = place
    return (part_number(machine.heap, address, at, POINT), 0, boxes)


def go_part(machine, further, far):
    """Takes the top place further on by so many bits, and through the pointer there where the part is far."""
    address, at, boxes = machine.places.pop()
    place = (address, at + further, boxes)
    machine.places.append(led(machine, place) if far else place)


def arm_at(machine, place, entry):
    """The number of the arm that is there at the place of a pick."""
    form = form_at(machine, entry)
    tag = part_number(machine.heap, place[0], place[1] + form[2], form[3])
    return arm_there(machine.heap.plan, form, tag)


def do_turn(machine, row):
    """Takes a turn for the statement at a program place."""
    take_turn(machine, row[1])


def do_plain(machine, row):
    """Puts a number, or a truth as 1 or 0."""
    machine.numbers.append(int(row[1]))


def do_two(machine, row):
    """Reckons of two numbers."""
    second = machine.numbers.pop()
    first = machine.numbers.pop()
    machine.numbers.append(int(two_reckoned(row[0], first, second)))


def do_not(machine, row):
    """Turns a truth round."""
    machine.numbers.append(1 - machine.numbers.pop())


def do_jump(machine, row):
    """Goes to a row."""
    machine.following = row[1]


def do_unless(machine, row):
    """Goes to a row where a truth doesn't hold."""
    if machine.numbers.pop() == 0:
        machine.following = row[1]


def do_frame(machine, row):
    """Puts the root's place."""
    machine.places.append((machine.heap.roots[machine.handle], 0, 0))


def do_field(machine, row):
    """Goes to a field."""
    at, inner, far = form_at(machine, row[1])[2][row[2]]
    go_part(machine, at, far)


def do_item(machine, row):
    """Goes to a thing of a row."""
    kind, form = machine.heap.plan[row[1]]
    number = machine.numbers.pop()
    if not is_between(number, 0, kind[1] - 1):
        raise Ended("row")
    go_part(machine, number * form[1], False)


def do_arm(machine, row):
    """Goes to the payload of an arm."""
    if arm_at(machine, machine.places[-1], row[1]) != row[2]:
        raise Ended("arm")
    code, at, inner, far = form_at(machine, row[1])[5][row[2]]
    go_part(machine, at, far)


def do_box(machine, row):
    """Goes through a box's pointer."""
    address, at, boxes = led(machine, machine.places.pop())
    machine.places.append((address, at, boxes + 1))


def do_same(machine, row):
    """Stays, as a use lies where its body lies."""


def do_probe(machine, row):
    """Asks whether an arm is there."""
    there = arm_at(machine, machine.places.pop(), row[1])
    machine.numbers.append(1 if there == row[2] else 0)


def do_fetch(machine, row):
    """Puts the number or truth of a slot."""
    kind, form = machine.heap.plan[row[1]]
    address, at, boxes = machine.places.pop()
    machine.numbers.append(int(decoded(kind, part_number(machine.heap, address, at, form[1]))))


def do_keep(machine, row):
    """Writes a number or truth into a slot."""
    kind, form = machine.heap.plan[row[1]]
    address, at, boxes = machine.places.pop()
    number = machine.numbers.pop()
    told = number == 1 if kind[0] == "truth" else number
    if not plain_fits(kind, told):
        raise Ended("range")
    write_bits(machine.heap, address, at, form[1], coded(kind, told))


def do_say(machine, row):
    """Tells a number or truth."""
    number = machine.numbers.pop()
    machine.answers.append(number == 1 if row[1] else number)


def do_show(machine, row):
    """Tells the worth at a place."""
    address, at, boxes = machine.places.pop()
    machine.answers.append(sheets_worth(machine.heap.plan, part_sheets(machine.heap, row[1], address, at)))


def tallied(plan, sheets):
    """How many parts a worth with these sheets has, and how many of its boxes lie within one another at most."""
    met = 0
    boxes = []
    words = []
    for entry, pattern, above, at in sheets:
        walk = walk_over(plan, entry, pattern)
        met += walk.met
        words.append({point[1]: point[3] for point in points_of(walk.slots)})
        around = 0
        if above != -1:
            around = boxes[above] + (1 if words[above][at] == "box" else 0)
        boxes.append(around)
    return (met, max(boxes))


def end_deep(machine, sheets, boxes):
    """Ends where a part with these sheets would have too many boxes around it."""
    if boxes + tallied(machine.heap.plan, sheets)[1] > MOST_BOXES:
        raise Ended("deep")


def end_crowded(machine, sheets, old):
    """Ends where the whole would have too many parts with these sheets in the place of the old ones."""
    heap = machine.heap
    more = tallied(heap.plan, sheets)[0] - tallied(heap.plan, old)[0]
    # The whole is a worth, so that it has too many only where it has more than before.
    if more > 0:
        whole = part_sheets(heap, ROOT, heap.roots[machine.handle], 0)
        if tallied(heap.plan, whole)[0] + more > MOST_WORTH:
            raise Ended("deep")


def overwrite(machine, place, sheets):
    """Writes the sheets of a worth over the part at a place."""
    address, at, boxes = place
    end_deep(machine, sheets, boxes)
    end_crowded(machine, sheets, part_sheets(machine.heap, sheets[0][0], address, at))
    try:
        write_part(machine.heap, address, at, sheets)
    except Full:
        raise Ended("full") from None


def do_put(machine, row):
    """Puts what an image tells at a place."""
    overwrite(machine, machine.places.pop(), image_sheets(machine.heap.plan, row[2]))


def do_copy(machine, row):
    """Puts what is at another place at a place."""
    goal = machine.places.pop()
    address, at, boxes = machine.places.pop()
    overwrite(machine, goal, part_sheets(machine.heap, row[1], address, at))


def end_over(machine, entry, place, other):
    """Ends where another place of the same entry lies behind that one."""
    # It can't lie in the same bits, as no kind has itself among its flat parts.
    rows = part_rows(machine.heap, entry, place[0], place[1])[1:]
    if other[0] in [row[1] for row in rows]:
        raise Ended("over")


def do_swap(machine, row):
    """Puts what is at each of two places at the other; the blocks behind them stay where they are."""
    heap = machine.heap
    entry = row[1]
    other = machine.places.pop()
    one = machine.places.pop()
    if one[:2] == other[:2]:
        return
    end_over(machine, entry, one, other)
    end_over(machine, entry, other, one)
    end_deep(machine, part_sheets(heap, entry, other[0], other[1]), one[2])
    end_deep(machine, part_sheets(heap, entry, one[0], one[1]), other[2])
    wide = size(heap.plan, entry)
    first = part_number(heap, one[0], one[1], wide)
    second = part_number(heap, other[0], other[1], wide)
    write_bits(heap, one[0], one[1], wide, second)
    write_bits(heap, other[0], other[1], wide, first)


def do_end(machine, row):
    """Is done."""
    raise Ended("done")


ACTIONS = {
    "turn": do_turn,
    "number": do_plain,
    "truth": do_plain,
    "add": do_two,
    "sub": do_two,
    "mul": do_two,
    "div": do_two,
    "rem": do_two,
    "less": do_two,
    "like": do_two,
    "not": do_not,
    "jump": do_jump,
    "unless": do_unless,
    "frame": do_frame,
    "field": do_field,
    "item": do_item,
    "arm": do_arm,
    "box": do_box,
    "same": do_same,
    "probe": do_probe,
    "fetch": do_fetch,
    "keep": do_keep,
    "say": do_say,
    "show": do_show,
    "put": do_put,
    "copy": do_copy,
    "swap": do_swap,
    "end": do_end,
}


def run_rows(machine, code):
    """Does rows until something ends, and tells the word for that."""
    try:
        while True:
            row = code[machine.following]
            machine.following += 1
            action = ACTIONS[row[0]]
            action(machine, row)
    except Ended as end:
        return end.word


def run_root(store, handle, code, turns):
    """Runs code over a root, (answers, end, place, used)."""
    refuse_unknown(store.heap, handle)
    fault = code_fault(store.heap.plan, code)
    if fault is not None:
        raise BadCode(fault[0], fault[1])
    machine = Machine(store.heap, handle, turns)
    word = run_rows(machine, code)
    place = () if word == "done" else machine.place
    return (tuple(machine.answers), word, place, machine.taken)


def run(store, handle, code, *, turns=TURNS):
    """Runs code over a root of a store, (answers, end, place, used); the root is left as told."""
    store.begun += 1
    try:
        return run_root(store, handle, code, turns)
    finally:
        store.ended += 1
