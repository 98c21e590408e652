"""Worths that grow by a paper and shrink back, and papers put one behind the other."""

from packedforms.errors import NoGrowth, NotShrunk
from packedforms.growcheck import MOST_ROWS
from packedforms.kinds import alike
from packedforms.worths import arm_place, plain_fits

# In the stead of a row's number: what is there is fresh and doesn't grow.
FRESH = -1


def growing_parts(row, worth):
    """What an old worth has that grows by other rows: (number of the row, thing), in the step's order."""
    old, new, step = row
    word = step[0]
    if word == "record":
        return [(field[1], worth[field[0]]) for field in step[1] if field[0] != -1]
    if word == "variant":
        return [(step[1][arm_place(old, worth[0])][1], worth[1])]
    if word == "row" or word == "maybe":
        return [(step[1], thing) for thing in worth]
    return [(step[1], worth)] if word == "some" else []


def record_of(fields, parts):
    """A new record: its fresh worths, and the others from what has grown, in their order."""
    left = parts[::-1]
    return tuple([field[2] if field[0] == -1 else left.pop() for field in fields])


def grown_whole(row, worth, parts):
    """What an old worth grows to, of which these are the parts that have grown."""
    old, new, step = row
    word = step[0]
    if word == "record":
        return record_of(step[1], parts)
    if word == "variant":
        return (new[1][step[1][arm_place(old, worth[0])][0]][0], parts[0])
    if word == "row":
        return tuple(parts) + step[2]
    if word == "maybe" or word == "some":
        return tuple(parts)
    return worth


def grown_by(paper, number, worth):
    """What a worth grows to by the row of a number."""
    # All things that grow, each ahead of its parts, so that from the last one on each comes behind them.
    things = []
    left = [(number, worth, -1)]
    while left:
        link, thing, above = left.pop()
        rows = [(inner, part, len(things)) for inner, part in growing_parts(paper[link], thing)]
        things.append((link, thing, above))
        left.extend(rows[::-1])
    whole = None
    parts = [[] for thing in things]
    for place in reversed(range(len(things))):
        link, thing, above = things[place]
        whole = grown_whole(paper[link], thing, parts[place][::-1])
        if above != -1:
            parts[above].append(whole)
    return whole


def grown(paper, worth):
    """What a worth of the old kind grows to."""
    return grown_by(paper, 0, worth)


def old_arm(row, worth):
    """The number of the old arm that goes to the arm which a new worth has, or None."""
    old, new, step = row
    goal = arm_place(new, worth[0])
    for number, arm in enumerate(step[1]):
        if arm[0] == goal:
            return number
    return None


def never_grown(row, worth):
    """Whether a row leads to no worth that is, but for its parts, like this new one."""
    word = row[2][0]
    if word == "number":
        return not plain_fits(row[0], worth)
    if word == "variant":
        return old_arm(row, worth) is None
    return word == "some" and worth == ()


def shrinking_parts(row, worth):
    """What a new worth has in it: (step of the path, number of the row or FRESH, fresh worth that is due, thing)."""
    old, new, step = row
    word = step[0]
    if word == "record":
        rows = list(zip(step[1], new[1], worth))
        return [(("field", part[0]), field[1], field[2], thing) for field, part, thing in rows]
    if word == "variant":
        return [(("arm", worth[0]), step[1][old_arm(row, worth)][1], None, worth[1])]
    if word == "row":
        links = [(step[1], None) for each in range(old[1])] + [(FRESH, each) for each in step[2]]
        return [(("at", place), links[place][0], links[place][1], thing) for place, thing in enumerate(worth)]
    if word == "maybe" or word == "some":
        return [(("some",), step[1], None, thing) for thing in worth]
    return []


def shrunk_whole(row, worth, parts):
    """The old worth that grew to a new one, of which these are the parts that have shrunk."""
    old, new, step = row
    word = step[0]
    if word == "record":
        places = [field[0] for field in step[1] if field[0] != -1]
        return tuple([parts[places.index(place)] for place in range(len(places))])
    if word == "variant":
        return (old[1][old_arm(row, worth)][0], parts[0])
    if word == "row" or word == "maybe":
        return tuple(parts)
    return parts[0] if word == "some" else worth


def shrinking_things(paper, worth):
    """All things of a new worth that shrink, each ahead of its parts: rows (number of the row, thing, above); refuses
    the first one in preorder to which growing never leads."""
    things = []
    left = [((), 0, None, worth, -1)]
    while left:
        path, link, due, thing, above = left.pop()
        if link == FRESH:
            if not alike(thing, due):
                raise NotShrunk(path)
            continue
        if never_grown(paper[link], thing):
            raise NotShrunk(path)
        rows = [(path + (step,), inner, fresh, part, len(things))
                for step, inner, fresh, part in shrinking_parts(paper[link], thing)]
        things.append((link, thing, above))
        left.extend(rows[::-1])
    return things


def shrunk(paper, worth):
    """The worth of the old kind that grew to this one."""
    things = shrinking_things(paper, worth)
    whole = None
    parts = [[] for thing in things]
    for place in reversed(range(len(things))):
        link, thing, above = things[place]
        whole = shrunk_whole(paper[link], thing, parts[place][::-1])
        if above != -1:
            parts[above].append(whole)
    return whole


def chained_fields(other, fields, more):
    """The fields of two record steps put one behind the other, with pairs in the stead of rows' numbers."""
    rows = []
    for source, link, fresh in more:
        if source == -1:
            rows.append((-1, FRESH, fresh))
        elif fields[source][0] == -1:
            rows.append((-1, FRESH, grown_by(other, link, fields[source][2])))
        else:
            rows.append((fields[source][0], (fields[source][1], link), None))
    return tuple(rows)


def chained_step(one, other, pair):
    """The step of a pair of rows put one behind the other, with pairs in the stead of rows' numbers."""
    first = one[pair[0]][2]
    second = other[pair[1]][2]
    if second[0] == "some":
        return ("some", (pair[0], second[1]))
    if first[0] == "some":
        return ("some", (first[1], second[1]))
    if first[0] == "record":
        return ("record", chained_fields(other, first[1], second[1]))
    if first[0] == "variant":
        arms = [(second[1][arm][0], (link, second[1][arm][1])) for arm, link in first[1]]
        return ("variant", tuple(arms))
    if first[0] == "row":
        fresh = [grown_by(other, second[1], each) for each in first[2]]
        return ("row", (first[1], second[1]), tuple(fresh) + second[2])
    if first[0] == "maybe":
        return ("maybe", (first[1], second[1]))
    return first


def pairs_in(step):
    """The pairs to which a step of pairs leads, in its order."""
    if step[0] == "record":
        return [field[1] for field in step[1] if field[0] != -1]
    if step[0] == "variant":
        return [arm[1] for arm in step[1]]
    return [step[1]] if len(step) > 1 else []


def numbered(step, numbers):
    """A step of pairs with the numbers of their rows in their stead."""
    if step[0] == "record":
        fields = [(field[0], FRESH if field[0] == -1 else numbers[field[1]], field[2]) for field in step[1]]
        return ("record", tuple(fields))
    if step[0] == "variant":
        return ("variant", tuple([(arm[0], numbers[arm[1]]) for arm in step[1]]))
    if len(step) == 1:
        return step
    return (step[0], numbers[step[1]]) + step[2:]


def chained(one, other):
    """The paper by which each worth grows as by the one and then by the other."""
    if not alike(one[0][1], other[0][0]):
        raise NoGrowth((), "between")
    numbers = {}
    rows = []
    left = [(0, 0)]
    while left:
        pair = left.pop()
        if pair in numbers:
            continue
        if len(rows) == MOST_ROWS:
            raise NoGrowth((), "many")
        step = chained_step(one, other, pair)
        if step[0] == "some" and chained_step(one, other, step[1])[0] == "some":
            raise NoGrowth((), "some")
        numbers[pair] = len(rows)
        rows.append((one[pair[0]][0], other[pair[1]][1], step))
        left.extend(pairs_in(step)[::-1])
    return tuple([(old, new, numbered(step, numbers)) for old, new, step in rows])
