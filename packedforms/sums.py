"""What the walk over worths and code over bytes reckon alike, and the words by which both end."""


class Ended(Exception):
    """Nothing goes on from here; the word tells why. It never leaves the package."""

    def __init__(self, word):
        self.word = word


def divided(one, other):
    """A number divided by another, rounded down, and what is left by that."""
    if other == 0:
        raise Ended("nought")
    return divmod(one, other)


def two_reckoned(word, one, other):
    """What an expression of this word tells of two numbers; like takes two truths as well."""
    if word == "add":
        return one + other
    if word == "sub":
        return one - other
    if word == "mul":
        return one * other
    if word == "div":
        return divided(one, other)[0]
    if word == "rem":
        return divided(one, other)[1]
    if word == "less":
        return one < other
    return one == other
