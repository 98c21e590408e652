"""Views: a part of a root of a store, found anew by its path each time."""

from packedforms.blocks import block_reached, write_part
from packedforms.errors import OutOfRow
from packedforms.images import laid_sheets
from packedforms.kinds import alike, is_between
from packedforms.paths import first_unlike, part_in, path_numbers, replaced_in
from packedforms.plans import ROOT, own_parts, plan_web, size
from packedforms.worths import arm_place


class Finger:
    """Where the way along a path is: the places of the points that were followed, the bit place, the entry."""

    def __init__(self):
        self.hops = []
        self.at = 0
        self.entry = ROOT


def go_on(finger, at, entry, far):
    """Goes to a part that lies further on by so many bits, through its pointer where it is far."""
    finger.at += at
    finger.entry = entry
    if far:
        finger.hops.append(finger.at)
        finger.at = 0


def see_through(plan, finger):
    """Goes on through uses and boxes."""
    form = plan[finger.entry][1]
    while form[0] in ("same", "point"):
        go_on(finger, 0, form[1], form[0] == "point")
        form = plan[finger.entry][1]


def go_step(plan, finger, step):
    """Goes a step that fits the kind of the entry and lies within a row."""
    kind, form = plan[finger.entry]
    if form[0] == "run":
        go_on(finger, step[1] * form[1], form[2], False)
    else:
        place = 1 if kind[0] == "maybe" else arm_place(kind, step[1])
        at, entry, far = own_parts(form)[place]
        go_on(finger, at, entry, far)


def spot(plan, path):
    """Where a path leads from the root's block, (hops, at, entry), whatever worth is there."""
    numbers = path_numbers(plan_web(plan), path)
    for at, step in enumerate(path):
        if step[0] == "at" and not is_between(step[1], 0, plan[numbers[at]][0][1] - 1):
            raise OutOfRow(at)
    finger = Finger()
    see_through(plan, finger)
    for step in path:
        go_step(plan, finger, step)
        see_through(plan, finger)
    return (tuple(finger.hops), finger.at, finger.entry)


def write_through(view, worth):
    """Puts another part where a view leads."""
    store = view.store
    heap = store.heap
    # Only its refusals are wanted: the whole is never laid anew.
    replaced_in(heap.web, store.worth(view.handle), view.path, worth)
    hops, at, entry = spot(heap.plan, view.path)
    write_part(heap, block_reached(heap, view.handle, hops), at, laid_sheets(heap.plan, entry, worth))


def step_text(step):
    """A step as the text of a view has it."""
    if step[0] == "field":
        return f".{step[1]}"
    if step[0] == "at":
        return f"[{step[1]}]"
    return f":{step[1]}" if step[0] == "arm" else "?"


class View:
    """A path into a root of a store; nothing of the worth is kept in it."""

    def __init__(self, store, handle, path):
        path_numbers(store.heap.web, path)
        self.store = store
        self.handle = handle
        self.path = path

    def read(self):
        """The part that is there."""
        store = self.store
        return part_in(store.heap.web, store.worth(self.handle), self.path)

    def write(self, worth):
        """Puts another part there, all else stays."""
        store = self.store
        store.begun += 1
        try:
            write_through(self, worth)
        finally:
            store.ended += 1

    def where(self):
        """The address of the block in which the part begins, its bit place there, and its bits."""
        self.read()
        heap = self.store.heap
        hops, at, entry = spot(heap.plan, self.path)
        return (block_reached(heap, self.handle, hops), at, size(heap.plan, entry))

    def further(self, steps):
        """A view of the same root with these steps more."""
        return View(self.store, self.handle, self.path + steps)

    def apart(self, other):
        """Whether the handles are unlike or neither path begins the other."""
        return not alike(self.handle, other.handle) or first_unlike(self.path, other.path) is not None

    def __eq__(self, other):
        return isinstance(other, View) and alike(self.handle, other.handle) and alike(self.path, other.path)

    def __len__(self):
        return len(self.path)

    def __str__(self):
        return "".join([f"{self.handle}"] + [step_text(step) for step in self.path])
