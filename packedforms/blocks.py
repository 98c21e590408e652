"""Blocks in a flat room of bytes: taken, given back, moved together, written and read."""

from packedforms.errors import Full
from packedforms.images import bits_at, mask_at, points_of, sheets_weight, walk_over
from packedforms.kinds import is_between
from packedforms.plans import POINT, ROOT, block, plan_web, size

ROOM = 512
MOST_ROOM = 2048

# Blocks lie at multiples of this, the first one not below it.
STEP = 8


class Heap:
    """All bytes of a store, the entry of each block by its address, and the address of each root by its handle."""

    def __init__(self, plan, room):
        self.plan = plan
        self.web = plan_web(plan)
        self.room = room
        self.memory = [0 for byte in range(room + STEP)]
        self.standing = {}
        self.roots = {}


def is_room(thing):
    """Whether it is a multiple of 8 from 8 to the most that a store may have."""
    return is_between(thing, STEP, MOST_ROOM) and thing % STEP == 0


def number_at(memory, address, many):
    """The number that so many bytes make, bit k of it in byte k // 8."""
    number = 0
    for byte in memory[address:address + many][::-1]:
        number = number * 256 + byte
    return number


def bytes_of(number, many):
    """The so many bytes that a number makes."""
    row = []
    rest = number
    for each in range(many):
        rest, byte = divmod(rest, 256)
        row.append(byte)
    return row


def block_number(heap, address):
    """The number that a standing block makes."""
    return number_at(heap.memory, address, block(heap.plan, heap.standing[address]))


def write_block(heap, address, number):
    """Writes all bytes of a standing block."""
    many = block(heap.plan, heap.standing[address])
    heap.memory[address:address + many] = bytes_of(number, many)


def used_bytes(heap):
    """How many bytes blocks have."""
    return sum([block(heap.plan, entry) for entry in heap.standing.values()])


def part_number(heap, address, at, wide):
    """The number in so many bits of a block, from bit at on."""
    first, bit = divmod(at, 8)
    return bits_at(number_at(heap.memory, address + first, (bit + wide + 7) // 8), bit, wide)


def write_bits(heap, address, at, wide, number):
    """Writes a number into so many bits of a block, from bit at on; no other bit changes."""
    first, bit = divmod(at, 8)
    start = address + first
    many = (bit + wide + 7) // 8
    old = number_at(heap.memory, start, many)
    heap.memory[start:start + many] = bytes_of(old & ~mask_at(bit, wide) | number << bit, many)


def points_in(plan, entry, pattern):
    """The points of a pattern: rows (place, entry to which it leads, address)."""
    points = points_of(walk_over(plan, entry, pattern).slots)
    return [(at, inner, bits_at(pattern, at, wide)) for path, at, wide, word, inner in points]


def with_points(pattern, places, addresses):
    """The pattern with these addresses at the places of its points."""
    number = pattern
    for at, address in zip(places, addresses):
        number = number & ~mask_at(at, POINT) | address << at
    return number


def part_rows(heap, entry, address, at):
    """A part that lies in a block from bit at on, and all blocks behind it, each ahead of those behind its points: rows
    (entry, address, number with its points 0, above, place of the point), as sheets have them."""
    found = []
    left = [(entry, address, at, -1, 0)]
    while left:
        inner, place, bit, above, point = left.pop()
        number = part_number(heap, place, bit, size(heap.plan, inner))
        points = points_in(heap.plan, inner, number)
        rows = [(target, goal, 0, len(found), each) for each, target, goal in points]
        bare = with_points(number, [each[0] for each in points], [0 for each in points])
        found.append((inner, place, bare, above, point))
        left.extend(rows[::-1])
    return found


def part_sheets(heap, entry, address, at):
    """The sheets of the image of a part that lies in a block from bit at on."""
    return [(inner, bare, above, point) for inner, place, bare, above, point in part_rows(heap, entry, address, at)]


def root_rows(heap, handle):
    """All blocks of a root, rows as part_rows tells them."""
    return part_rows(heap, ROOT, heap.roots[handle], 0)


def first_fit(heap, many):
    """The least address at which so many bytes are free, or None."""
    address = STEP
    for start in sorted(heap.standing):
        if address + many <= start:
            return address
        address = start + block(heap.plan, heap.standing[start])
    return address if address + many <= len(heap.memory) else None


def give_back(heap, addresses):
    """Gives blocks back; their bytes are 0 then."""
    for address in addresses:
        write_block(heap, address, 0)
        del heap.standing[address]


def goals_together(heap):
    """The address that each standing block has once all are moved together."""
    goals = {}
    end = STEP
    for address in sorted(heap.standing):
        goals[address] = end
        end += block(heap.plan, heap.standing[address])
    return goals


def move_blocks(heap, goals):
    """Moves all blocks, in their order, to these addresses; points and roots follow."""
    old = sorted(heap.standing)
    numbers = [followed(heap, address, goals) for address in old]
    entries = [heap.standing[address] for address in old]
    heap.memory = [0 for byte in heap.memory]
    heap.standing = {goals[address]: entry for address, entry in zip(old, entries)}
    for address, number in zip(old, numbers):
        write_block(heap, goals[address], number)
    for handle in list(heap.roots):
        heap.roots[handle] = goals[heap.roots[handle]]


def move_together(heap):
    """Moves all blocks together and tells how many have another address than before."""
    goals = goals_together(heap)
    move_blocks(heap, goals)
    return len([address for address in goals if goals[address] != address])


def followed(heap, address, goals):
    """The number of a block with its points led to where their blocks go; those to no block stay."""
    number = block_number(heap, address)
    points = points_in(heap.plan, heap.standing[address], number)
    targets = [goals.get(target, target) for place, inner, target in points]
    return with_points(number, [point[0] for point in points], targets)


def take_once(heap, entries):
    """Takes blocks of these entries one by one, as far as there are addresses for them, and tells those."""
    addresses = []
    for entry in entries:
        address = first_fit(heap, block(heap.plan, entry))
        if address is None:
            return addresses
        heap.standing[address] = entry
        addresses.append(address)
    return addresses


def take(heap, entries, held):
    """Takes blocks of these entries, that have room at least once all is moved together, and tells their addresses,
    and ahead of these where the block is by then that was at the address held."""
    addresses = take_once(heap, entries)
    if len(addresses) == len(entries):
        return [held] + addresses
    give_back(heap, addresses)
    goals = goals_together(heap)
    move_blocks(heap, goals)
    return [goals.get(held, held)] + take_once(heap, entries)


def refuse_full(heap, sheets, given):
    """Refuses sheets that need more bytes than no block has and than are given back."""
    need = sheets_weight(heap.plan, sheets)
    rest = heap.room - used_bytes(heap) + given
    if need > rest:
        raise Full(need, rest)


def pointed(sheets, addresses):
    """The patterns of sheets with their points leading to the addresses, one for each sheet."""
    patterns = [sheet[1] for sheet in sheets]
    for sheet, address in zip(sheets, addresses):
        if sheet[2] != -1:
            patterns[sheet[2]] |= address << sheet[3]
    return patterns


def keep_root(heap, handle, sheets):
    """Takes blocks for the sheets of a worth, writes it there and keeps its address under a handle."""
    refuse_full(heap, sheets, 0)
    # No block is held, as there is none of this root yet.
    addresses = take(heap, [sheet[0] for sheet in sheets], 0)[1:]
    for address, pattern in zip(addresses, pointed(sheets, addresses)):
        write_block(heap, address, pattern)
    heap.roots[handle] = addresses[0]


def drop_root(heap, handle):
    """Gives back all blocks of a root."""
    give_back(heap, [row[1] for row in root_rows(heap, handle)])
    del heap.roots[handle]


def block_reached(heap, handle, hops):
    """The address of the block to which the points at these places lead, from a root's block on."""
    address = heap.roots[handle]
    for at in hops:
        address = part_number(heap, address, at, POINT)
    return address


def write_part(heap, address, at, sheets):
    """Writes the sheets of a worth over a part of the same entry that lies in a block from bit at on."""
    behind = part_rows(heap, sheets[0][0], address, at)[1:]
    refuse_full(heap, sheets[1:], sum([block(heap.plan, row[0]) for row in behind]))
    give_back(heap, [row[1] for row in behind])
    # The taking may move the block in which the part lies.
    addresses = take(heap, [sheet[0] for sheet in sheets[1:]], address)
    patterns = pointed(sheets, addresses)
    write_bits(heap, addresses[0], at, size(heap.plan, sheets[0][0]), patterns[0])
    for place, pattern in zip(addresses[1:], patterns[1:]):
        write_block(heap, place, pattern)
