"""The way of playing by barred losses: both players' numbers against a mark, round by round."""

from twofarplayers.errors import BadBarred
from twofarplayers.losses import first_letters
from twofarplayers.rows import places_along
from twofarplayers.twins import is_barred
from twofarplayers.words import MOST_ROUNDS, need_loss, need_number, need_wishes


def need_barred(value):
    """Refuse what are no barred ones."""
    if not is_barred(value):
        raise BadBarred(value)


def marks_along(barred, rounds):
    """The marks behind 0 rounds, behind 1, up to so many."""
    places = [places_along(first_letters(loss, rounds)) for loss in barred]
    return [max(row) for row in zip(*places)]


def has_ended(number, goal):
    """Whether a player with this number ends by a mark like this."""
    return abs(number - goal) > 1


def sent(number, goal):
    """The number that a player sends; None if it ends by this mark, or has ended already."""
    return None if number is None or has_ended(number, goal) else number


def next_number(own, heard):
    """The number behind a round, from the own one and the one that was heard; None if the player has ended."""
    if own is None:
        return None
    return 3 * own if heard is None else own + 2 * heard


def played_rows(barred, loss, rounds):
    """(mark, first number, second number) behind 0 rounds, 1, up to so many; None for a player that ended ahead."""
    marks = marks_along(barred, rounds)
    rows = [(marks[0], 0, 1)]
    for fate, goal in zip(first_letters(loss, rounds), marks[1:]):
        ahead, first, second = rows[-1]
        one, other = sent(first, ahead), sent(second, ahead)
        first = next_number(one, None if fate == "s" else other)
        second = next_number(other, None if fate == "f" else one)
        rows.append((goal, first, second))
    return rows


def end_of(rows, player, wishes):
    """(rounds, value): behind which, and on which, the player at this place of the rows ends; None if it does not."""
    for at, row in enumerate(rows):
        number, goal = row[player], row[0]
        # Rows without its number stand only behind the one by which it ended.
        if has_ended(number, goal):
            return (at, wishes[0] if number < goal else wishes[1])
    return None


def mark(barred, rounds):
    """The place of the barred one's first so many fates, the greater one of twins."""
    need_barred(barred)
    need_number(rounds, MOST_ROUNDS)
    return marks_along(barred, rounds)[-1]


def talk(barred, wishes, loss, most):
    """For each player (rounds, value): behind how many rounds it ended, and on what; None if it did not."""
    need_barred(barred)
    need_wishes(wishes)
    need_loss(loss)
    need_number(most, MOST_ROUNDS)
    rows = played_rows(barred, loss, most)
    return (end_of(rows, 1, wishes), end_of(rows, 2, wishes))


def talked(barred, loss, rounds):
    """The mark and both players' numbers behind 0 rounds, behind 1, up to so many."""
    need_barred(barred)
    need_loss(loss)
    need_number(rounds, MOST_ROUNDS)
    return tuple(played_rows(barred, loss, rounds))
