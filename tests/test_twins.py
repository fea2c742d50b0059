"""Twins: which losses have one, which are twins of one another, and how far apart the places of losses are."""

import itertools

from tests.cases import Case
from tests.samples import EVERY, letters, LONE, losses_up_to, NO_INTEGERS, NO_LOSSES, TWINS, words_up_to
from twofarplayers.errors import BadLoss, BadNumber
from twofarplayers.losses import least, tail
from twofarplayers.rows import neighbours, place
from twofarplayers.twins import are_twins, distance, twins

LOSSES = losses_up_to(2, 3)
# By these, what tells short losses apart has long come, and those that come apart are far apart.
FAR = 16
PARTED = (("f", "n", "s"), ("s", "n", "f"))
LONG = (("n" * 200, "s" * 200), ("f" * 200, "n" * 200), ("s" * 200, "f"), ("", "nfs" * 66 + "ns"), ("n" * 199 + "f", "s"),
        ("sn" * 100, "sf"), ("nf" * 100, "f" * 199 + "n"), ("", "f"), ("n", "s" * 77))


def told_ways(head, ring):
    """This loss, and others that are alike with it: longer heads, the round several times over."""
    for turns, times in itertools.product(range(4), range(1, 4)):
        row = head + ring * 4
        cut = len(head) + turns
        yield (row[:cut], ((ring * 2)[turns % len(ring):][:len(ring)]) * times)


class HaveTwins(Case):
    def test_words_and_then_one_fate_for_ever(self):
        for word in words_up_to(3):
            for one, other, ever in PARTED:
                self.told(((word + other, ever),), twins, (word + one, ever))
                self.told(((word + one, ever),), twins, (word + other, ever))

    def test_told_in_several_ways(self):
        for word in ("", "n", "sf", "fns"):
            for one, other, ever in PARTED:
                for loss in told_ways(word + one, ever):
                    self.told(((word + other, ever),), twins, loss)

    def test_losses_that_have_none(self):
        for head, ring in LONE:
            for loss in told_ways(head, ring):
                self.told((), twins, loss)
        for ever in "fs":
            for many, times in itertools.product((0, 1, 5, 200), (1, 2, 200)):
                self.told((), twins, (ever * many, ever * times))

    def test_statement(self):
        for loss in LOSSES:
            row = letters(loss, FAR)
            alone = tail(loss) == "fair" or row in ("f" * FAR, "s" * FAR)
            self.assertEqual(len(twins(loss)), 0 if alone else 1)

    def test_twins_of_twins(self):
        for loss in LOSSES:
            for twin in twins(loss):
                self.told((least(loss),), twins, twin)
                self.told(twin, least, twin)
                self.assertEqual(tail(twin), tail(loss))
                self.assertNotEqual(letters(twin, FAR), letters(loss, FAR))

    def test_long_losses(self):
        self.told((("n" * 199 + "f", "s"),), twins, ("n" * 200, "s" * 200))
        self.told((("n" * 200, "s"),), twins, ("n" * 199 + "f", "s"))
        self.told((("s" * 199 + "n", "f"),), twins, ("s" * 200, "f" * 200))
        self.told((("s", "f"),), twins, ("n" + "f" * 199, "f" * 200))
        self.told((), twins, ("n" * 200, "s" * 199 + "n"))
        self.told((), twins, ("n" * 200, "f" * 199 + "s"))


class AreTwins(Case):
    def test_against_the_row(self):
        places = {loss: place(letters(loss, FAR)) for loss in LOSSES}
        for one, other in itertools.product(LOSSES[::2], LOSSES):
            self.assertIs(are_twins(one, other), abs(places[one] - places[other]) == 1)

    def test_beginnings_of_twins_are_neighbours(self):
        for one, other in TWINS:
            longest = max(len(one[0]), len(other[0]))
            for rounds in (longest, longest + 1, 20, 150, 200):
                self.assertIn(letters(other, rounds), neighbours(letters(one, rounds)))

    def test_told_in_several_ways(self):
        for word in ("", "s", "nf"):
            for one, other, ever in PARTED:
                for here, there in itertools.product(told_ways(word + one, ever), told_ways(word + other, ever)):
                    self.told(True, are_twins, here, there)
                    self.told(True, are_twins, there, here)

    def test_against_twins(self):
        for one, other in itertools.product(LOSSES[::5], LOSSES[::3]):
            self.assertIs(are_twins(one, other), twins(one) == (least(other),))

    def test_losses_that_are_none(self):
        for loss in LOSSES:
            self.told(False, are_twins, loss, loss)
        near = ((("f", "s"), ("nn", "s")), (("f", "s"), ("n", "f")), (("f", "s"), ("s", "f")), (("fs", "f"), ("fn", "s")),
                (("fs", "s"), ("sn", "s")), (("nf", "s"), ("fn", "s")), (("", "s"), ("n", "s")), (("", "f"), ("", "s")),
                (("f", "sn"), ("n", "sn")), (("f", "n"), ("s", "n")), (("n" * 200, "s"), ("n" * 198 + "fn", "s")),
                (("n" * 200, "s"), ("n" * 199 + "f", "f")), (("n" * 200, "s"), ("n" * 199 + "f", "s" * 199 + "f")))
        for one, other in near:
            self.told(False, are_twins, one, other)
            self.told(False, are_twins, other, one)

    def test_long_losses(self):
        self.told(True, are_twins, ("n" * 200, "s" * 200), ("n" * 199 + "f", "s"))
        self.told(True, are_twins, ("f" * 100 + "n" + "f" * 99, "f" * 200), ("f" * 100 + "s", "f"))


class Distance(Case):
    def test_places(self):
        for one, other in itertools.product(LOSSES[::7], LOSSES[::4]):
            for rounds in (0, 1, 2, 3, 5, 9):
                far = abs(place(letters(one, rounds)) - place(letters(other, rounds)))
                self.told(far, distance, one, other, rounds)

    def test_places_of_long_losses(self):
        for one, other in itertools.product(LONG, repeat=2):
            for rounds in (1, 100, 199, 200):
                far = abs(place(letters(one, rounds)) - place(letters(other, rounds)))
                self.told(far, distance, one, other, rounds)

    def test_ends_of_the_row(self):
        for rounds in range(201):
            self.told(3 ** rounds - 1, distance, ("", "s"), ("", "f"), rounds)
            self.told((3 ** rounds - 1) // 2, distance, ("", "n"), ("ff", "fff"), rounds)

    def test_twins_and_alike_ones(self):
        for one, other in TWINS:
            far = [distance(one, other, rounds) for rounds in range(201)]
            self.assertEqual(sorted(set(far)), [0, 1])
            self.assertEqual(far, sorted(far))
            for loss in (one, other):
                for alike in told_ways(*loss):
                    for rounds in (0, 1, 7, 200):
                        self.told(0, distance, loss, alike, rounds)

    def test_statement_of_all_others(self):
        for one, other in itertools.product(LOSSES[::6], LOSSES[::5]):
            far = [distance(one, other, rounds) for rounds in range(24)]
            for ahead, behind in zip(far, far[1:]):
                self.assertTrue(3 * ahead - 2 <= behind <= 3 * ahead + 2)
                self.assertTrue(ahead < 2 or 2 * behind >= 3 * ahead)
            unlike = letters(one, FAR) != letters(other, FAR)
            self.assertEqual(far[-1] > 1, unlike and not are_twins(one, other))

    def test_sequence_does_not_matter(self):
        for one, other in itertools.product(LOSSES[::9], LOSSES[::11]):
            self.told(distance(one, other, 13), distance, other, one, 13)


class Refusals(Case):
    def test_what_is_no_loss(self):
        for value in NO_LOSSES:
            self.refused(BadLoss, value, twins, value)
            self.refused(BadLoss, value, twins, loss=value)
            for right in (("", "n"), ("f", "s")):
                self.refused(BadLoss, value, are_twins, value, right)
                self.refused(BadLoss, value, are_twins, right, value)
                self.refused(BadLoss, value, distance, value, right, 3)
                self.refused(BadLoss, value, distance, right, value, 3)

    def test_numbers(self):
        for value in NO_INTEGERS + (-1, 201, 202, -200, 10 ** 11, -10 ** 11):
            self.refused(BadNumber, value, distance, ("f", "s"), ("n", "s"), value)
            self.refused(BadNumber, value, distance, rounds=value, other=("f", "s"), one=("f", "s"))

    def test_the_first_of_several_stands_first(self):
        for value in NO_LOSSES:
            self.refused(BadLoss, value, are_twins, value, "other")
            self.refused(BadLoss, value, distance, value, "other", -1)
            self.refused(BadLoss, value, distance, value, ("", "n"), True)
            self.refused(BadLoss, value, distance, ("", "n"), value, 201)
            self.refused(BadLoss, value, distance, rounds=None, other=value, one=("f", "s"))
        self.refused(BadLoss, "one", are_twins, other="other", one="one")
        self.refused(BadLoss, EVERY, distance, EVERY, "other", None)
