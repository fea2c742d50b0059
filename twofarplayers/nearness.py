"""Ends that are near one another where players cannot agree; all numbers are fractions, told as (top, bottom)."""

from math import gcd

from twofarplayers.errors import BadDistance, BadEnds, BadWorths
from twofarplayers.rows import numbers, width, word_with
from twofarplayers.words import MOST_ROUNDS, is_whole, need_number

# Rows of ends grow threefold with each round, so that longer ones are refused.
MOST_ENDING = 5


def is_fraction(value):
    """Whether this is a fraction in least terms, with a bottom of 1 or more."""
    if type(value) is not tuple or len(value) != 2 or not all([is_whole(part) for part in value]):
        return False
    top, bottom = value
    return bottom >= 1 and gcd(top, bottom) == 1


def in_least_terms(top, bottom):
    """The fraction with this value; the bottom is above 0."""
    common = gcd(top, bottom)
    return (top // common, bottom // common)


def is_above(one, other):
    """Whether the one fraction is greater than the other."""
    return one[0] * other[1] > other[0] * one[1]


def apart(one, other):
    """How far apart two fractions are."""
    return in_least_terms(abs(one[0] * other[1] - other[0] * one[1]), one[1] * other[1])


def on_the_way(worths, steps, many):
    """The first worth, and on to the second one by this many steps of so many that lead there."""
    one, other = worths
    top = one[0] * other[1] * (many - steps) + other[0] * one[1] * steps
    return in_least_terms(top, one[1] * other[1] * many)


def need_worths(value):
    """Refuse what are no worths."""
    if type(value) is not tuple or len(value) != 2 or not all([is_fraction(part) for part in value]):
        raise BadWorths(value)


def near(worths, word):
    """(The first one's end, the second one's end) behind this word."""
    need_worths(worths)
    first, second = numbers(word)
    many = width(len(word))
    return (on_the_way(worths, first, many), on_the_way(worths, second, many))


def gap(worths, rounds):
    """How far apart the two ends of near are behind each word of so many fates."""
    need_worths(worths)
    need_number(rounds, MOST_ROUNDS)
    top, bottom = apart(worths[0], worths[1])
    return in_least_terms(top, bottom * width(rounds))


def needed(worths, distance):
    """The least number of rounds behind which gap is at most this distance."""
    need_worths(worths)
    if not is_fraction(distance) or distance[0] <= 0:
        raise BadDistance(distance)
    top, bottom = apart(worths[0], worths[1])
    rounds = 0
    while is_above((top, bottom), distance):
        bottom = 3 * bottom
        rounds += 1
    return rounds


def rounds_of(value):
    """How many rounds a way of ending is for; BadEnds if it is none."""
    if type(value) is tuple and all([is_fraction(end) for end in value]):
        for rounds in range(MOST_ENDING + 1):
            if len(value) == width(rounds) + 1:
                return rounds
    raise BadEnds(value)


def widest(ends):
    """(The word behind which the two ends are farthest apart, how far); of several words that with the least place."""
    rounds = rounds_of(ends)
    found = 0
    distances = [apart(one, other) for one, other in zip(ends, ends[1:])]
    for at, distance in enumerate(distances):
        if is_above(distance, distances[found]):
            found = at
    return (word_with(rounds, found), distances[found])
