"""Losses: endless rows of fates, told as (head, round)."""

from twofarplayers.errors import TooLong
from twofarplayers.words import MOST_FATES, need_loss, need_number, need_word


def shortest_ring(ring):
    """The shortest word that, again and again, is the same endless row as this one."""
    for size in range(1, len(ring)):
        if ring[:size] * (len(ring) // size) == ring:
            return ring[:size]
    return ring


def least_form(head, ring):
    """The loss with the shortest head, and then the shortest round, of this row; words of any length."""
    ring = shortest_ring(ring)
    while head != "" and head[-1] == ring[-1]:
        head = head[:-1]
        ring = ring[-1] + ring[:-1]
    return (head, ring)


def first_letters(loss, many):
    """The first so many letters of the loss."""
    head, ring = loss
    return (head + ring * many)[:many]


def least(loss):
    """The loss alike with this one with the shortest head, and then the shortest round."""
    need_loss(loss)
    head, ring = loss
    return least_form(head, ring)


def are_alike(one, other):
    """Whether both tell the same endless row."""
    return least(one) == least(other)


def letters_of(loss, many):
    """The word of the first so many letters of the loss."""
    need_loss(loss)
    need_number(many, MOST_FATES)
    return first_letters(loss, many)


def tail(loss):
    """What the loss is for ever from some round on: "f", or "s"; otherwise "fair"."""
    need_loss(loss)
    ring = shortest_ring(loss[1])
    return ring if ring in ("f", "s") else "fair"


def shifted(loss, word):
    """The least loss that has the letters of the word first, and then those of the loss."""
    need_loss(loss)
    need_word(word)
    head, ring = least_form(word + loss[0], loss[1])
    if len(head) > MOST_FATES:
        raise TooLong(len(head))
    return (head, ring)
