"""A store told by hand: where each block lies and all bytes, reckoned by the plainest ways from images alone."""

from packedforms.images import imaged, rows_of
from packedforms.plans import block


class NoRoom(Exception):
    """More is needed than is left."""


def nodes_of(plan, image, key=()):
    """All images within one, in preorder: key, image. A key is the way to a block, from point to point by its path."""
    rows = [(key, image)]
    points = [row for row in rows_of(plan, image[0], image[1]) if row[3] in ("box", "far")]
    for point, inner in zip(points, image[2], strict=True):
        rows += nodes_of(plan, inner, key + (point[0],))
    return rows


def joined(key):
    return tuple(step for path in key for step in path)


class Simulator:
    def __init__(self, book, plan, room):
        self.book, self.plan, self.room = book, plan, room
        self.images = {}
        # By (handle, key): (address, bytes).
        self.places = {}
        self.next = 1

    def used(self):
        return sum(many for address, many in self.places.values())

    def free_address(self, many):
        taken = {byte for address, length in self.places.values() for byte in range(address, address + length)}
        for address in range(8, self.room + 9 - many, 8):
            if not taken & set(range(address, address + many)):
                return address
        return None

    def take_once(self, rows):
        names = []
        for name, many in rows:
            address = self.free_address(many)
            if address is None:
                for each in names:
                    del self.places[each]
                return False
            self.places[name] = (address, many)
            names.append(name)
        return True

    def take(self, rows):
        if not self.take_once(rows):
            self.together()
            assert self.take_once(rows)

    def together(self):
        end, moved = 8, 0
        for name in sorted(self.places, key=lambda each: self.places[each][0]):
            address, many = self.places[name]
            self.places[name] = (end, many)
            moved += address != end
            end += many
        return moved

    def fill(self, worth):
        image = imaged(self.book, self.plan, worth)
        handle = self.next
        rows = [((handle, key), block(self.plan, inner[0])) for key, inner in nodes_of(self.plan, image)]
        need = sum(many for name, many in rows)
        rest = self.room - self.used()
        if need > rest:
            raise NoRoom(need, rest)
        self.take(rows)
        self.images[handle] = image
        self.next += 1
        return handle

    def free(self, handle):
        for name in [name for name in self.places if name[0] == handle]:
            del self.places[name]
        del self.images[handle]

    def write(self, handle, path, hops, worth):
        """Another worth of the whole root, that is another only at the path; hops is how many points lead there."""
        old = dict(nodes_of(self.plan, self.images[handle]))
        image = imaged(self.book, self.plan, worth)

        def behind(key):
            return len(key) > hops and joined(key)[:len(path)] == path

        new = nodes_of(self.plan, image)
        assert {key for key in old if not behind(key)} == {key for key, inner in new if not behind(key)}
        rows = [((handle, key), block(self.plan, inner[0])) for key, inner in new if behind(key)]
        gone = [(handle, key) for key in old if behind(key)]
        need = sum(many for name, many in rows)
        rest = self.room - self.used() + sum(self.places[name][1] for name in gone)
        if need > rest:
            raise NoRoom(need, rest)
        for name in gone:
            del self.places[name]
        self.take(rows)
        self.images[handle] = image

    def memory(self):
        bits = 0
        for handle, image in self.images.items():
            for key, (entry, pattern, images) in nodes_of(self.plan, image):
                points = [row for row in rows_of(self.plan, entry, pattern) if row[3] in ("box", "far")]
                for point in points:
                    pattern += self.places[(handle, key + (point[0],))][0] << point[1]
                bits += pattern << 8 * self.places[(handle, key)][0]
        return tuple(bits.to_bytes(self.room + 8, "little"))

    def told(self):
        roots = tuple((handle, self.places[(handle, ())][0]) for handle in sorted(self.images))
        return (self.room, self.memory(), roots)

    def blocks(self):
        rows = []
        for handle, image in self.images.items():
            for key, inner in nodes_of(self.plan, image):
                rows.append(self.places[(handle, key)] + (inner[0],))
        return tuple(sorted(rows))
