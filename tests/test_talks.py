"""The way of playing: marks, who ends when and on what, and the players' numbers."""

import itertools

from tests.cases import Case
from tests.samples import (
    EVERY, letters, LONE, losses_up_to, NO_BARRED, NO_INTEGERS, NO_LOSSES, NO_WISHES, TWINS, WISHES, words_up_to)
from twofarplayers.errors import BadBarred, BadLoss, BadNumber, BadWishes
from twofarplayers.losses import least
from twofarplayers.rows import numbers, place
from twofarplayers.talks import mark, talk, talked

BARRED = tuple((loss,) for loss in LONE) + TWINS + tuple((other, one) for one, other in TWINS)
LOSSES = losses_up_to(2, 2)
LONG = (("n" * 200, "s" * 200), ("f" * 200, "n"), ("s" * 199 + "f", "nf" * 100), ("", "nfs" * 66 + "nn"), ("n" * 150, "s"))
# Behind so many rounds short losses have long shown how they go on.
ENOUGH = 14


class Player:
    """A player that knows what it was told alone: it may end on the other's wish only if it has heard it."""

    def __init__(self, number, wish, own):
        self.number, self.own, self.end = number, own, None
        self.wishes = {own: wish}

    def look(self, level, rounds):
        if self.end is None and abs(self.number - level) >= 2:
            self.end = (rounds, self.wishes["first" if self.number < level else "second"])

    def hear(self, letter):
        if self.end is None:
            self.number = 3 * self.number if letter is None else self.number + 2 * letter[0]
            self.wishes.update(letter[1] if letter else {})


def play(barred, wishes, loss, most):
    """Both players' ends, and the rows of (mark, first number, second number), by playing."""
    first, second = Player(0, wishes[0], "first"), Player(1, wishes[1], "second")
    rows = []
    for rounds in range(most + 1):
        level = max(place(letters(told, rounds)) for told in barred)
        rows.append((level,) + tuple(player.number if player.end is None else None for player in (first, second)))
        for player in (first, second):
            player.look(level, rounds)
        sent = [None if player.end else (player.number, dict(player.wishes)) for player in (first, second)]
        fate = letters(loss, most + 1)[rounds]
        first.hear(None if fate == "s" else sent[1])
        second.hear(None if fate == "f" else sent[0])
    return (first.end, second.end), tuple(rows)


class Marks(Case):
    def test_places(self):
        for barred in BARRED:
            for rounds in (0, 1, 2, 3, 4, 9, 77, 200):
                self.told(max(place(letters(loss, rounds)) for loss in barred), mark, barred, rounds)

    def test_each_number(self):
        for rounds in range(201):
            self.told((3 ** rounds - 1) // 2, mark, (("", "n"),), rounds)
            self.told(0, mark, (("s", "ss"),), rounds)
            self.told(3 ** rounds - 1, mark, (("", "f"),), rounds)
            self.told(2 * 3 ** rounds // 3, mark, (("n", "s"), ("f", "s")), rounds)

    def test_greater_one_of_twins(self):
        for one, other in TWINS:
            for rounds in (0, 1, 6, 50):
                here, there = place(letters(one, rounds)), place(letters(other, rounds))
                self.assertEqual(mark((one, other), rounds), max(here, there))
                self.assertEqual(mark((other, one), rounds), max(here, there))
            self.assertEqual(here + there + 1, 2 * mark((one, other), 50))

    def test_losses_of_200_fates(self):
        greater = max(place("n" * 200), place("n" * 199 + "f"))
        self.told(place("n" * 200), mark, (("n" * 200, "f" * 199 + "n"),), 200)
        self.told(greater, mark, (("n" * 200, "s" * 200), ("n" * 199 + "f", "s")), 200)


class Talks(Case):
    def test_by_playing(self):
        for barred in BARRED[::2]:
            for loss in LOSSES[::3]:
                for most in (0, 1, 2, 3, 7):
                    ends, rows = play(barred, (0, 1), loss, most)
                    self.told(ends, talk, barred, (0, 1), loss, most)
                    self.told(rows, talked, barred, loss, most)

    def test_by_playing_with_all_wishes(self):
        for barred in BARRED:
            for loss in LOSSES[::11]:
                for wishes in WISHES:
                    self.told(play(barred, wishes, loss, 9)[0], talk, barred, wishes, loss, 9)

    def test_long_losses(self):
        for barred in BARRED[::4] + ((("n" * 200, "f" * 199 + "n"),),):
            for loss in LONG:
                for most in (199, 200):
                    ends, rows = play(barred, (1, 0), loss, most)
                    self.told(ends, talk, barred, (1, 0), loss, most)
                    self.told(rows, talked, barred, loss, most)

    def test_all_but_the_barred_ones_end_alike(self):
        for barred in BARRED:
            barred_rows = [letters(loss, ENOUGH) for loss in barred]
            for loss in LOSSES:
                row = letters(loss, ENOUGH)
                for wishes in WISHES:
                    first, second = talk(barred, wishes, loss, 40)
                    if row in barred_rows:
                        self.assertEqual((first, second), (None, None))
                    else:
                        self.assertEqual(first[1], second[1])
                        self.assertIn(first[1], wishes)

    def test_each_has_heard_the_wish_on_which_it_ends(self):
        for barred in BARRED:
            for loss in LOSSES[::2]:
                # A player that lacks the wish would fail here, by a missing key.
                ends, _ = play(barred, (0, 1), loss, ENOUGH)
                self.assertEqual(ends, talk(barred, (0, 1), loss, ENOUGH))

    def test_barred_ones_never_end(self):
        for barred in BARRED:
            for loss in barred:
                for told in (loss, least(loss), (loss[0] + loss[1], loss[1] * 3)):
                    for wishes in WISHES:
                        self.told((None, None), talk, barred, wishes, told, 200)
                    rows = talked(barred, told, 200)
                    self.assertEqual(len(rows), 201)
                    for rounds in (0, 1, 17, 200):
                        self.assertEqual(rows[rounds][1:], numbers(letters(loss, rounds)))

    def test_who_leaves_the_barred_one_late(self):
        for many in (0, 1, 50, 197):
            late = ("n" * many + "f", "n")
            self.assertNotIn(None, talk((("", "n"),), (0, 1), late, many + 3))
            self.told((None, None), talk, (("", "n"),), (0, 1), late, many)
        self.told((None, None), talk, (("", "n"),), (1, 1), ("n" * 200, "s"), 200)

    def test_wishes_alike(self):
        for barred, loss in itertools.product(BARRED, LOSSES[::5]):
            for wish in (0, 1):
                ends = talk(barred, (wish, wish), loss, 30)
                self.assertLessEqual({end[1] for end in ends if end}, {wish})

    def test_side_is_the_same_whatever_the_wishes(self):
        for barred, loss in itertools.product(BARRED, LOSSES[::3]):
            one, other = talk(barred, (0, 1), loss, 30), talk(barred, (1, 0), loss, 30)
            turned = tuple(end and (end[0], 1 - end[1]) for end in other)
            self.assertEqual(one, turned)

    def test_twins_the_other_way_round(self):
        for (one, other), loss in itertools.product(TWINS, LOSSES[::3]):
            for wishes in WISHES:
                self.told(talk((one, other), wishes, loss, 20), talk, (other, one), wishes, loss, 20)
            self.told(talked((one, other), loss, 20), talked, (other, one), loss, 20)
            self.told(mark((one, other), 20), mark, (other, one), 20)

    def test_told_in_several_ways(self):
        for barred in BARRED:
            other_way = tuple((head + ring, ring * 2) for head, ring in barred)
            for head, ring in LOSSES[::13]:
                self.told(talk(barred, (0, 1), (head, ring), 20), talk, other_way, (0, 1), (head + ring * 2, ring * 3), 20)
                self.told(talked(barred, (head, ring), 20), talked, other_way, (head + ring * 2, ring * 3), 20)

    def test_numbers_as_long_as_nobody_has_ended(self):
        for barred, loss in itertools.product(BARRED, LOSSES[::2]):
            rows = talked(barred, loss, 12)
            for rounds, (level, first, second) in enumerate(rows):
                self.assertEqual(level, mark(barred, rounds))
                if first is None or second is None:
                    break
                self.assertEqual((first, second), numbers(letters(loss, rounds)))
                if max(abs(first - level), abs(second - level)) > 1:
                    break

    def test_behind_the_end_none_is_told(self):
        for barred, loss in itertools.product(BARRED, LOSSES[::2]):
            ends, rows = talk(barred, (0, 1), loss, 12), talked(barred, loss, 12)
            for player, end in enumerate(ends, 1):
                last = end[0] if end else 12
                told = [row[player] is None for row in rows]
                self.assertEqual(told, [False] * (last + 1) + [True] * (12 - last))

    def test_fewer_rounds_tell_the_beginning(self):
        for barred in BARRED[::3]:
            for loss in LOSSES[::7]:
                rows, ends = talked(barred, loss, 20), talk(barred, (0, 1), loss, 20)
                for most in range(20):
                    self.told(rows[:most + 1], talked, barred, loss, most)
                    self.told(tuple(end if end and end[0] <= most else None for end in ends), talk, barred, (0, 1), loss, most)

    def test_words_ahead_of_the_ends(self):
        for word in words_up_to(3):
            for barred in ((("", "f"),), (("", "s"),), (("f", "s"), ("n", "s"))):
                for ring in "nfs":
                    ends, rows = play(barred, (1, 0), (word, ring), 8)
                    self.told(ends, talk, barred, (1, 0), (word, ring), 8)
                    self.told(rows, talked, barred, (word, ring), 8)


class Refusals(Case):
    def test_barred_ones(self):
        for value in NO_BARRED:
            self.refused(BadBarred, value, mark, value, 3)
            self.refused(BadBarred, value, mark, rounds=3, barred=value)
            self.refused(BadBarred, value, talk, value, (0, 1), ("", "n"), 3)
            self.refused(BadBarred, value, talked, value, ("", "n"), 3)

    def test_wishes(self):
        for value in NO_WISHES:
            for barred in BARRED[::5]:
                self.refused(BadWishes, value, talk, barred, value, ("", "f"), 3)
                self.refused(BadWishes, value, talk, most=0, loss=("", "f"), wishes=value, barred=barred)

    def test_losses(self):
        for value in NO_LOSSES:
            for barred in BARRED[::5]:
                self.refused(BadLoss, value, talk, barred, (0, 1), value, 3)
                self.refused(BadLoss, value, talked, barred, value, 3)

    def test_numbers(self):
        for value in NO_INTEGERS + (-1, 201, 202, -200, 10 ** 11, -10 ** 11):
            for barred in BARRED[::5]:
                self.refused(BadNumber, value, mark, barred, value)
                self.refused(BadNumber, value, talk, barred, (0, 1), ("", "f"), value)
                self.refused(BadNumber, value, talked, barred, ("", "f"), value)

    def test_the_first_of_several_stands_first(self):
        for value in NO_BARRED:
            self.refused(BadBarred, value, mark, value, -1)
            self.refused(BadBarred, value, talk, value, (0, 2), "loss", True)
            self.refused(BadBarred, value, talk, value, (0, 1), "loss", 3)
            self.refused(BadBarred, value, talk, value, (0, 1), ("", "n"), 201)
            self.refused(BadBarred, value, talked, value, "loss", 201)
            self.refused(BadBarred, value, talked, rounds=None, loss=("", "n"), barred=value)
        barred = (("f", "s"), ("n", "s"))
        for value in NO_WISHES:
            self.refused(BadWishes, value, talk, barred, value, "loss", 201)
            self.refused(BadWishes, value, talk, barred, value, "loss", 3)
            self.refused(BadWishes, value, talk, most=True, loss=("", "n"), wishes=value, barred=barred)
        for value in NO_LOSSES:
            self.refused(BadLoss, value, talk, barred, (1, 1), value, -1)
            self.refused(BadLoss, value, talked, barred, value, False)
        self.refused(BadBarred, EVERY, talk, EVERY, EVERY, EVERY, EVERY)
