"""The row of all words of so many fates, in which neighbours are told apart by one player alone."""

from twofarplayers.errors import BadPlace, NotOne
from twofarplayers.words import MOST_ROUNDS, is_whole, need_number, need_word

# Whole rows grow threefold with each round, so that longer ones are refused.
MOST_WHOLE = 6
PLAYERS = ("first", "second")
# In the row, the words with one fate more stand in this sequence behind an even place, and behind an odd one.
BEHIND = ("snf", "fns")


def width(rounds):
    """How many words of so many fates there are."""
    many = 1
    for _ in range(rounds):
        many = 3 * many
    return many


def place_behind(at, fate):
    """The place of a word with this fate more than the one with this place."""
    return 3 * at + BEHIND[at % 2].index(fate)


def places_along(word):
    """The places of all beginnings of a word of any length, that without fates and the word itself among them."""
    places = [0]
    for fate in word:
        places.append(place_behind(places[-1], fate))
    return places


def place_of(word):
    """The place of a word of any length."""
    return places_along(word)[-1]


def word_with(rounds, at):
    """The word of so many fates with this place, which there is."""
    word = ""
    for _ in range(rounds):
        ahead = at // 3
        word = BEHIND[ahead % 2][at % 3] + word
        at = ahead
    return word


def numbers_at(at):
    """The first and the second player's number behind a word with this place: the first one's is even."""
    return (at, at + 1) if at % 2 == 0 else (at + 1, at)


def word_or_none(rounds, at):
    """The word of so many fates with this place; None where there is no such place."""
    return word_with(rounds, at) if 0 <= at < width(rounds) else None


def place(word):
    """The place of the word in the row of the words of as many fates."""
    need_word(word)
    return place_of(word)


def word_at(rounds, at):
    """The word of so many fates with this place."""
    need_number(rounds, MOST_ROUNDS)
    if not is_whole(at) or not 0 <= at < width(rounds):
        raise BadPlace(at)
    return word_with(rounds, at)


def numbers(word):
    """The first and the second player's number behind the word."""
    need_word(word)
    return numbers_at(place_of(word))


def neighbours(word):
    """The words with the place ahead and the place behind; None for each that is not there."""
    need_word(word)
    at = place_of(word)
    return (word_or_none(len(word), at - 1), word_or_none(len(word), at + 1))


def blind(one, other):
    """The players who have the same number behind both words."""
    need_word(one)
    need_word(other)
    if len(one) != len(other):
        raise NotOne((one, other))
    pairs = list(zip(numbers(one), numbers(other)))
    return tuple([player for player, (here, there) in zip(PLAYERS, pairs) if here == there])


def whole_row(rounds):
    """All words of so many fates, by their places."""
    need_number(rounds, MOST_WHOLE)
    return tuple([word_with(rounds, at) for at in range(width(rounds))])
