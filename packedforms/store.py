"""The store: worths of a plan's root kept in a flat room of bytes under handles."""

from packedforms.blocks import ROOM, Heap, drop_root, is_room, keep_root, move_together, part_sheets, used_bytes
from packedforms.errors import BadStore, Misfit, NoHandle
from packedforms.images import laid_sheets, sheets_image, sheets_worth
from packedforms.kinds import alike, is_whole
from packedforms.needs import MOST_BOXES, MOST_WORTH
from packedforms.plancheck import refuse_plan
from packedforms.plans import ROOT, block
from packedforms.worths import toured


def root_sheets(heap, handle):
    """The sheets of the root that has a handle; refuses what is no handle."""
    refuse_unknown(heap, handle)
    return part_sheets(heap, ROOT, heap.roots[handle], 0)


def refuse_unknown(heap, handle):
    """Refuses what is no handle of a root."""
    if not is_whole(handle) or handle not in heap.roots:
        raise NoHandle(handle)


def fill_store(store, worth):
    """Keeps a worth under the next handle and tells that."""
    heap = store.heap
    path = toured(heap.web, worth, MOST_BOXES, MOST_WORTH)[0]
    if path is not None:
        raise Misfit(path)
    handle = store.following
    keep_root(heap, handle, laid_sheets(heap.plan, ROOT, worth))
    store.following += 1
    return handle


def free_root(store, handle):
    """Gives back all blocks of a root."""
    refuse_unknown(store.heap, handle)
    drop_root(store.heap, handle)


class Store:
    """Worths of the kind of a plan's root, kept in bytes."""

    def __init__(self, book, plan, *, room=ROOM):
        refuse_plan(book, plan)
        if not is_room(room):
            raise BadStore("room", -1, ())
        self.book = book
        self.heap = Heap(plan, room)
        self.following = 1
        self.begun = 0
        self.ended = 0

    def fill(self, worth):
        """Keeps a worth and tells its handle."""
        self.begun += 1
        try:
            return fill_store(self, worth)
        finally:
            self.ended += 1

    def worth(self, handle):
        """The worth that is kept under a handle."""
        return sheets_worth(self.heap.plan, root_sheets(self.heap, handle))

    def image(self, handle):
        """The image of the worth that is kept under a handle."""
        return sheets_image(root_sheets(self.heap, handle))

    def free(self, handle):
        """Gives back the blocks of a handle, which is none then."""
        self.begun += 1
        try:
            free_root(self, handle)
        finally:
            self.ended += 1

    def together(self):
        """Moves all blocks together and tells how many have another address than before."""
        self.begun += 1
        try:
            return move_together(self.heap)
        finally:
            self.ended += 1

    def used(self):
        """How many bytes blocks have."""
        return used_bytes(self.heap)

    def blocks(self):
        """All blocks, (address, bytes, entry), by rising addresses."""
        heap = self.heap
        rows = [(address, heap.standing[address]) for address in sorted(heap.standing)]
        return tuple([(address, block(heap.plan, entry), entry) for address, entry in rows])

    def told(self):
        """The room, all bytes, and all roots, (handle, address), by rising handles."""
        heap = self.heap
        roots = [(handle, heap.roots[handle]) for handle in sorted(heap.roots)]
        return (heap.room, tuple(heap.memory), tuple(roots))

    def ends(self):
        """How many deeds were begun and ended so far."""
        return (self.begun, self.ended)

    def twin(self):
        """A store just like this one, which goes on by itself."""
        other = Store(self.book, self.heap.plan, room=self.heap.room)
        heap = other.heap
        heap.memory = list(self.heap.memory)
        heap.standing = dict(self.heap.standing)
        heap.roots = dict(self.heap.roots)
        other.following = self.following
        other.begun = self.begun
        other.ended = self.ended
        return other

    def __eq__(self, other):
        if not isinstance(other, Store):
            return False
        return alike(self.heap.plan, other.heap.plan) and self.told() == other.told()

    def __len__(self):
        return len(self.heap.roots)

    def __str__(self):
        return f"{len(self.heap.roots)} roots, {self.used()} of {self.heap.room} bytes"
