"""Sound bytes: whether a room of bytes and roots is a store's, and stores made of such."""

from packedforms.blocks import STEP, is_room, number_at, root_rows
from packedforms.errors import BadStore
from packedforms.images import bits_at, has_gap, points_of, slots_fault, walk_over
from packedforms.kinds import is_between, is_tuple_of, is_whole
from packedforms.needs import MOST_BOXES, MOST_WORTH
from packedforms.plancheck import planfault
from packedforms.plans import ROOT, block
from packedforms.store import Store


class Looking:
    """What is known while bytes are looked at: the plan, the bytes, and which of them belong to blocks met so far."""

    def __init__(self, plan, memory):
        self.plan = plan
        self.memory = memory
        self.owned = [False for byte in memory]


def is_memory(thing, room):
    """Whether it is a tuple of all bytes of such a room."""
    return is_tuple_of(thing, room + STEP) and all([is_between(byte, 0, 255) for byte in thing])


def roots_fault(roots):
    """The number of the first of the roots that is no right pair, -1 where they are no tuple, or None."""
    if not isinstance(roots, tuple):
        return -1
    last = 0
    for number, pair in enumerate(roots):
        if not is_tuple_of(pair, 2) or not is_whole(pair[0]) or not is_whole(pair[1]) or pair[0] <= last:
            return number
        last = pair[0]
    return None


def outer_fault(book, plan, room, memory, roots):
    """The first fault that can be told without a look at the blocks, (why, root, path), or None."""
    if planfault(book, plan) is not None:
        return ("plan", -1, ())
    if not is_room(room):
        return ("room", -1, ())
    if not is_memory(memory, room):
        return ("bytes", -1, ())
    root = roots_fault(roots)
    return None if root is None else ("roots", root, ())


def place_fault(looking, address, many, boxes):
    """The word for why a block can't lie at an address, or None."""
    if boxes > MOST_BOXES:
        return "deep"
    if not is_between(address, STEP, len(looking.memory) - many) or address % STEP != 0:
        return "address"
    if any(looking.owned[address:address + many]):
        return "shared"
    return None


def own(looking, address, many):
    """Marks the bytes of a block as met."""
    for byte in range(address, address + many):
        looking.owned[byte] = True


def root_fault(looking, address):
    """The first fault of a root's blocks, (why, path), or None."""
    met = 0
    left = [((), ROOT, address, 0)]
    while left:
        path, entry, place, boxes = left.pop()
        many = block(looking.plan, entry)
        why = place_fault(looking, place, many, boxes)
        if why is not None:
            return (why, path)
        own(looking, place, many)
        walk = walk_over(looking.plan, entry, number_at(looking.memory, place, many))
        fault = slots_fault(walk)
        if fault is not None:
            return ("worth", path + fault[0])
        if has_gap(walk):
            return ("gap", path)
        met += walk.met
        rows = [(path + inner, target, bits_at(walk.pattern, at, wide), boxes + (1 if word == "box" else 0))
                for inner, at, wide, word, target in points_of(walk.slots)]
        left.extend(rows[::-1])
    return ("parts", ()) if met > MOST_WORTH else None


def soundfault(book, plan, room, memory, roots):
    """None where any written things are a store's, else their first fault, (why, root, path)."""
    fault = outer_fault(book, plan, room, memory, roots)
    if fault is not None:
        return fault
    looking = Looking(plan, memory)
    for number, (handle, address) in enumerate(roots):
        inner = root_fault(looking, address)
        if inner is not None:
            return (inner[0], number, inner[1])
    left = [byte for byte, owned in zip(memory, looking.owned) if byte > 0 and not owned]
    return ("left", -1, ()) if len(left) > 0 else None


def adopted(book, plan, room, memory, roots):
    """A store that has these bytes and roots."""
    fault = soundfault(book, plan, room, memory, roots)
    if fault is not None:
        raise BadStore(fault[0], fault[1], fault[2])
    store = Store(book, plan, room=room)
    heap = store.heap
    heap.memory = list(memory)
    for handle, address in roots:
        heap.roots[handle] = address
        store.following = handle + 1
        for row in root_rows(heap, handle):
            heap.standing[row[1]] = row[0]
    return store
