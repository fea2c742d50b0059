"""Twins: two losses whose beginnings stay neighbours in the row of all words."""

from twofarplayers.losses import first_letters, least
from twofarplayers.rows import place_of
from twofarplayers.words import MOST_ROUNDS, is_loss, need_loss, need_number

# By the fate that comes for ever in twins: the two fates that part them, in the one round ahead of that.
PARTED = {"s": "fn", "f": "sn"}


def twins(loss):
    """The losses that are twins of this one, least: none, or one."""
    head, ring = least(loss)
    if ring not in PARTED or head == "":
        return ()
    # A least head does not end on the fate that comes for ever then, so that its last one is one of the other two.
    one, other = PARTED[ring]
    return ((head[:-1] + (other if head[-1] == one else one), ring),)


def are_twins(one, other):
    """Whether both are twins of one another."""
    need_loss(one)
    return least(other) in twins(one)


def distance(one, other, rounds):
    """How far apart the places of the first so many fates of both are."""
    need_loss(one)
    need_loss(other)
    need_number(rounds, MOST_ROUNDS)
    return abs(place_of(first_letters(one, rounds)) - place_of(first_letters(other, rounds)))


def is_barred(value):
    """Whether these are losses that give a way of playing if they are barred: one that has no twin, or both twins."""
    if type(value) is not tuple or not all([is_loss(loss) for loss in value]):
        return False
    if len(value) == 1:
        return twins(value[0]) == ()
    return len(value) == 2 and are_twins(value[0], value[1])
