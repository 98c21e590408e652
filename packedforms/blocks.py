"""Blocks in a flat room of bytes: taken, given back, moved together, written and read."""

from packedforms.errors import Full
from packedforms.images import bits_at, mask_at, points_of, sheets_weight, walk_over
from packedforms.kinds import is_between
from packedforms.plans import POINT, block, plan_web, size

ROOM = 512
MOST_ROOM = 2048

# Blocks lie at multiples of this, the first one not below it.
STEP = 8


class Heap:
    """All bytes of a store, the entry of each block by its address, and the address of each root by its handle."""

    def __init__(self, plan, room):
        self.plan = plan
        self.web = plan_web(plan)
        self.room = room
        self.memory = [0 for byte in range(room + STEP)]
        self.standing = {}
        self.roots = {}


def is_room(thing):
    """Whether it is a multiple of 8 from 8 to the most that a store may have."""
    return is_between(thing, STEP, MOST_ROOM) and thing % STEP == 0


def number_at(memory, address, many):
    """The number that so many bytes make, bit k of it in byte k // 8."""
    number = 0
    for byte in memory[address:address + many][::-1]:
        number = number * 256 + byte
    return number


def bytes_of(number, many):
    """The so many bytes that a number makes."""
    row = []
    rest = number
    for each in range(many):
        rest, byte = divmod(rest, 256)
        row.append(byte)
    return row


def block_number(heap, address):
    """The number that a standing block makes."""
    return number_at(heap.memory, address, block(heap.plan, heap.standing[address]))


def write_block(heap, address, number):
    """Writes all bytes of a standing block."""
    many = block(heap.plan, heap.standing[address])
    heap.memory[address:address + many] = bytes_of(number, many)


def used_bytes(heap):
    """How many bytes blocks have."""
    return sum([block(heap.plan, entry) for entry in heap.standing.values()])


def points_in(plan, entry, pattern):
    """The points of a pattern: rows (place, entry to which it leads, address)."""
    points = points_of(walk_over(plan, entry, pattern).slots)
    return [(at, inner, bits_at(pattern, at, wide)) for path, at, wide, word, inner in points]


def with_points(pattern, places, addresses):
    """The pattern with these addresses at the places of its points."""
    number = pattern
    for at, address in zip(places, addresses):
        number = number & ~mask_at(at, POINT) | address << at
    return number


def blocks_from(heap, starts):
    """The blocks at these (entry, address), each with all that is behind it ahead of the next: rows (entry, address,
    number with its points 0, above, at), as sheets have them; above is -1 for each of the starts."""
    found = []
    left = [(entry, address, -1, 0) for entry, address in starts][::-1]
    while left:
        entry, address, above, at = left.pop()
        number = number_at(heap.memory, address, block(heap.plan, entry))
        points = points_in(heap.plan, entry, number)
        rows = [(inner, target, len(found), place) for place, inner, target in points]
        bare = with_points(number, [point[0] for point in points], [0 for point in points])
        found.append((entry, address, bare, above, at))
        left.extend(rows[::-1])
    return found


def kept_sheets(heap, entry, address):
    """The sheets of the image that is kept in the block at an address and behind it."""
    return [(inner, bare, above, at) for inner, place, bare, above, at in blocks_from(heap, [(entry, address)])]


def first_fit(heap, many):
    """The least address at which so many bytes are free, or None."""
    address = STEP
    for start in sorted(heap.standing):
        if address + many <= start:
            return address
        address = start + block(heap.plan, heap.standing[start])
    return address if address + many <= len(heap.memory) else None


def give_back(heap, addresses):
    """Gives blocks back; their bytes are 0 then."""
    for address in addresses:
        write_block(heap, address, 0)
        del heap.standing[address]


def move_together(heap):
    """Moves all blocks together and tells how many have another address than before."""
    old = sorted(heap.standing)
    goals = {}
    end = STEP
    for address in old:
        goals[address] = end
        end += block(heap.plan, heap.standing[address])
    numbers = [followed(heap, address, goals) for address in old]
    entries = [heap.standing[address] for address in old]
    heap.memory = [0 for byte in heap.memory]
    heap.standing = {goals[address]: entry for address, entry in zip(old, entries)}
    for address, number in zip(old, numbers):
        write_block(heap, goals[address], number)
    for handle in list(heap.roots):
        heap.roots[handle] = goals[heap.roots[handle]]
    return len([address for address in old if goals[address] != address])


def followed(heap, address, goals):
    """The number of a block with its points led to where their blocks go; those to no block stay."""
    number = block_number(heap, address)
    points = points_in(heap.plan, heap.standing[address], number)
    targets = [goals.get(target, target) for place, inner, target in points]
    return with_points(number, [point[0] for point in points], targets)


def take_once(heap, entries):
    """Takes blocks of these entries one by one, as far as there are addresses for them, and tells those."""
    addresses = []
    for entry in entries:
        address = first_fit(heap, block(heap.plan, entry))
        if address is None:
            return addresses
        heap.standing[address] = entry
        addresses.append(address)
    return addresses


def take(heap, entries):
    """Takes blocks of these entries, that have room at least once all is moved together, and tells their addresses."""
    addresses = take_once(heap, entries)
    if len(addresses) < len(entries):
        give_back(heap, addresses)
        move_together(heap)
        addresses = take_once(heap, entries)
    return addresses


def refuse_full(heap, sheets, given):
    """Refuses sheets that need more bytes than no block has and than are given back."""
    need = sheets_weight(heap.plan, sheets)
    rest = heap.room - used_bytes(heap) + given
    if need > rest:
        raise Full(need, rest)


def pointed(sheets, addresses):
    """The patterns of sheets with their points leading to the addresses, one for each sheet."""
    patterns = [sheet[1] for sheet in sheets]
    for sheet, address in zip(sheets, addresses):
        if sheet[2] != -1:
            patterns[sheet[2]] |= address << sheet[3]
    return patterns


def keep_root(heap, handle, sheets):
    """Takes blocks for the sheets of a worth, writes it there and keeps its address under a handle."""
    refuse_full(heap, sheets, 0)
    addresses = take(heap, [sheet[0] for sheet in sheets])
    for address, pattern in zip(addresses, pointed(sheets, addresses)):
        write_block(heap, address, pattern)
    heap.roots[handle] = addresses[0]


def drop_root(heap, handle):
    """Gives back all blocks of a root."""
    rows = blocks_from(heap, [(0, heap.roots[handle])])
    give_back(heap, [row[1] for row in rows])
    del heap.roots[handle]


def block_reached(heap, handle, hops):
    """The address of the block to which the points at these places lead, from a root's block on."""
    address = heap.roots[handle]
    for at in hops:
        address = bits_at(block_number(heap, address), at, POINT)
    return address


def write_part(heap, handle, spot, sheets):
    """Writes the sheets of a worth over the part at a spot (hops, at, entry) of a root."""
    hops, at, entry = spot
    wide = size(heap.plan, entry)
    old = bits_at(block_number(heap, block_reached(heap, handle, hops)), at, wide)
    starts = [(inner, target) for place, inner, target in points_in(heap.plan, entry, old)]
    behind = blocks_from(heap, starts)
    refuse_full(heap, sheets[1:], sum([block(heap.plan, row[0]) for row in behind]))
    give_back(heap, [row[1] for row in behind])
    taken = take(heap, [sheet[0] for sheet in sheets[1:]])
    # Only now, as the taking may have moved the block.
    address = block_reached(heap, handle, hops)
    patterns = pointed(sheets, [address] + taken)
    number = block_number(heap, address) & ~mask_at(at, wide) | patterns[0] << at
    write_block(heap, address, number)
    for place, pattern in zip(taken, patterns[1:]):
        write_block(heap, place, pattern)
