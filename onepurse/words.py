"""Patterns, and the words that they stand for when their brackets are gone so often."""

from onepurse.errors import BadPattern, BadSize, TooWide

SMALL_LETTERS = "abcdefghijklmnopqrstuvwxyz"
MOST_DEPTH = 60
MOST_COPIES = 400
MOST_UNROLLED = 2000


def is_pattern(text, letters):
    """Whether a text is a pattern of these letters."""
    depth = 0
    ahead = ""
    for sign in text:
        if sign == "(":
            depth += 1
        elif sign == ")":
            depth -= 1
        elif sign not in letters:
            return False
        if not 0 <= depth <= MOST_DEPTH or ahead + sign == "()":
            return False
        ahead = sign
    return depth == 0 and text != ""


def need_goings(pattern, goings):
    """Refuses what is no pattern of small letters, then a count of goings beyond its bounds."""
    if not is_pattern(pattern, SMALL_LETTERS):
        raise BadPattern()
    if not 1 <= goings <= MOST_COPIES:
        raise BadSize()


def gone(pattern, goings, nothing, worth_of):
    """The sum of what the letters are worth, with so many copies of what is in each bracket.

    Sums are kept in a list instead of by recursion, so that depth costs no calls.
    """
    outside = []
    here = nothing
    for sign in pattern:
        if sign == "(":
            outside.append(here)
            here = nothing
        elif sign == ")":
            here = outside.pop() + here * goings
        else:
            here = here + worth_of(sign)
    return here


def length_of(pattern, goings):
    """How many letters the word of a pattern has that is gone so often."""
    need_goings(pattern, goings)
    return gone(pattern, goings, 0, lambda letter: 1)


def unrolled(pattern, goings):
    """The word of a pattern that is gone so often."""
    if length_of(pattern, goings) > MOST_UNROLLED:
        raise TooWide(MOST_UNROLLED)
    return gone(pattern, goings, "", lambda letter: letter)
