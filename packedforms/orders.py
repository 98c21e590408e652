"""Parts laid one behind the other in an order, and papers that no order has fewer bits."""

from packedforms.kinds import is_between, is_tuple_of, is_whole
from packedforms.plans import MOST_SIZE

MOST_LAID = 8
MOST_LEAST = 5
ALIGNS = (1, 8, 16, 32, 64)


def rounded(number, multiple):
    """The least multiple that is not below a number."""
    return -(-number // multiple) * multiple


def laid_end(part, end):
    """Where what is laid ends once this part is laid behind the end."""
    bits, multiple = part
    return end if bits == 0 else rounded(end, multiple) + bits


def end_of(parts, order):
    """Where what is laid in this order ends; it need not have all parts."""
    end = 0
    for number in order:
        end = laid_end(parts[number], end)
    return end


def placed(parts, order):
    """The places of all parts, by their numbers, laid in an order."""
    places = [0 for part in parts]
    end = 0
    for number in order:
        bits, multiple = parts[number]
        end = laid_end(parts[number], end)
        places[number] = 0 if bits == 0 else end - bits
    return tuple(places)


def bits_of(parts, order):
    """How many bits parts have that are laid in an order."""
    return end_of(parts, order)


def falling(parts):
    """The order by falling align, of one align by number."""
    return tuple(sorted(range(len(parts)), key=lambda number: -parts[number][1]))


def left_of(parts, beginning):
    """The numbers of the parts that a beginning hasn't, in their order."""
    return [number for number in range(len(parts)) if number not in beginning]


def is_cut(parts, beginning, bits):
    """Whether no order with this beginning has fewer bits, even if all other parts lie without gaps."""
    others = sum([parts[number][0] for number in left_of(parts, beginning)])
    return end_of(parts, beginning) + others >= bits


def first_fewest(parts):
    """The first order, number by number, of those that have the fewest bits."""
    best = tuple(range(len(parts)))
    least = end_of(parts, best)
    left = [()]
    while left:
        beginning = left.pop()
        if is_cut(parts, beginning, least):
            continue
        if len(beginning) == len(parts):
            best = beginning
            least = end_of(parts, beginning)
        left.extend([beginning + (number,) for number in left_of(parts, beginning)[::-1]])
    return best


def grown_tree(parts, beginning, bits):
    """The least tree at a beginning that tells that no order has fewer bits."""
    if is_cut(parts, beginning, bits):
        return ()
    return tuple([grown_tree(parts, beginning + (number,), bits) for number in left_of(parts, beginning)])


def fewest(parts):
    """A paper of fewest bits, (bits, order, tree)."""
    order = first_fewest(parts)
    bits = bits_of(parts, order)
    return (bits, order, grown_tree(parts, (), bits))


def is_part(thing):
    """Whether it is a pair (size, align)."""
    if not is_tuple_of(thing, 2) or not is_between(thing[0], 0, MOST_SIZE):
        return False
    return is_whole(thing[1]) and thing[1] in ALIGNS


def are_parts(thing):
    """Whether it is a tuple of not too many parts."""
    return isinstance(thing, tuple) and len(thing) <= MOST_LAID and all([is_part(each) for each in thing])


def is_order(thing, many):
    """Whether it is a tuple of all part numbers, each once."""
    if not is_tuple_of(thing, many) or not all([is_between(each, 0, many - 1) for each in thing]):
        return False
    return len(set(thing)) == many


def tree_fault(parts, tree, bits):
    """The beginning of the first tree, in preorder, that doesn't tell what it should, or None."""
    left = [((), tree)]
    while left:
        beginning, thing = left.pop()
        if not isinstance(thing, tuple):
            return beginning
        numbers = left_of(parts, beginning)
        if thing == ():
            if not is_cut(parts, beginning, bits):
                return beginning
        elif len(thing) != len(numbers):
            return beginning
        rows = [(beginning + (number,), inner) for number, inner in zip(numbers, thing)]
        left.extend(rows[::-1])
    return None


def orderfault(parts, paper):
    """None where any written things are parts and a paper of their fewest bits, else the first fault."""
    if not are_parts(parts):
        return ("parts", ())
    if not is_tuple_of(paper, 3) or not is_whole(paper[0]):
        return ("form", ())
    bits, order, tree = paper
    if not is_order(order, len(parts)):
        return ("order", ())
    if bits_of(parts, order) != bits:
        return ("bits", ())
    beginning = tree_fault(parts, tree, bits)
    return None if beginning is None else ("tree", beginning)
