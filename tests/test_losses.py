"""Losses: the least one of those that are alike, their letters, their tails, and what comes ahead of them."""

import itertools

from tests.cases import Case
from tests.samples import EVERY, letters, losses_up_to, NO_INTEGERS, NO_LOSSES, NO_WORDS, words_up_to
from twofarplayers.errors import BadLoss, BadNumber, BadWord, TooLong
from twofarplayers.losses import are_alike, least, letters_of, shifted, tail

LOSSES = losses_up_to(3, 4)
LONG = (
    ("n" * 200, "n" * 200), ("f" + "n" * 199, "n" * 200), ("n" * 199 + "f", "n" * 200), ("nf" * 100, "nf" * 100),
    ("fn" * 100, "n" + "fn" * 99), ("", "n" * 199 + "f"), ("n" * 200, "n" * 199 + "f"), ("n" * 199 + "f", "n" * 199 + "f"),
    ("f", "n" * 199 + "f"), ("s" * 200, "f"), ("nfs" * 66, "nfs" * 66), ("nfs" * 66 + "n", "fsn" * 66), ("", "nnf" * 66 + "nn"))


def by_letters():
    """Losses in groups, by so many first letters that those of other rows are unlike."""
    groups = {}
    for loss in LOSSES:
        groups.setdefault(letters(loss, 3 + 4 + 4), []).append(loss)
    return list(groups.values())


class Alike(Case):
    def test_least_of_rows_told_in_many_ways(self):
        for group in by_letters():
            shortest = min((len(head), len(ring)) for head, ring in group)
            found = [loss for loss in group if (len(loss[0]), len(loss[1])) == shortest]
            self.assertEqual(len(found), 1)
            for loss in group:
                self.told(found[0], least, loss)
                self.told(True, are_alike, loss, group[0])
                self.told(True, are_alike, group[-1], loss)

    def test_near_rows_are_unlike(self):
        losses = losses_up_to(2, 3)
        for one, other in itertools.product(losses[::2], losses[::3]):
            self.told(letters(one, 8) == letters(other, 8), are_alike, one, other)
        for one, other in ((("", "nf"), ("", "fn")), (("n", "f"), ("", "f")), (("", "nnf"), ("", "nfn")), (("", "n"), ("", "f")),
                           (("", "n" * 199 + "f"), ("", "n")), (("n" * 200, "f"), ("n" * 199, "f")),
                           (("", "nf" * 99 + "nn"), ("", "nf")), (("n" * 200, "f"), ("n" * 200, "s"))):
            self.told(False, are_alike, one, other)
            self.told(False, are_alike, other, one)

    def test_long_losses(self):
        for loss in LONG:
            head, ring = least(loss)
            self.assertEqual(letters((head, ring), 600), letters(loss, 600))
            self.assertTrue(head == "" or head[-1] != ring[-1])
            sizes = [size for size in range(1, len(ring) + 1) if (ring + ring)[size:size + len(ring)] == ring]
            self.assertEqual(sizes[0], len(ring))
            self.told((head, ring), least, (head, ring))
        for one, other in itertools.product(LONG, repeat=2):
            self.told(letters(one, 600) == letters(other, 600), are_alike, one, other)
        self.told(("", "n"), least, LONG[0])
        self.told(("f", "n"), least, LONG[1])
        self.told(("n" * 199 + "f", "n"), least, LONG[2])
        self.told(("", "nf"), least, LONG[3])
        self.told(("", "nfs"), least, ("nfs" * 66 + "n", "fsn" * 66))

    def test_same_row_by_many_tellings(self):
        for head, ring in (("", "nf"), ("s", "nf"), ("nn", "f"), ("", "nfs"), ("ff", "nns")):
            for turns, times in itertools.product(range(12), range(1, 5)):
                row = head + ring * 12
                cut = len(head) + turns
                told = (row[:cut], ((ring * 2)[turns % len(ring):][:len(ring)]) * times)
                self.told((head, ring), least, told)

    def test_least_of_the_least(self):
        for loss in LOSSES[::3]:
            self.told(least(loss), least, least(loss))


class Letters(Case):
    def test_letters(self):
        for loss in LOSSES[::5] + list(LONG):
            for many in (0, 1, 2, 3, 4, 7, 11, 100, 199, 200):
                self.told(letters(loss, many), letters_of, loss, many)

    def test_each_number(self):
        for many in range(201):
            self.told(("n" + "fs" * 100)[:many], letters_of, ("n", "fs"), many)

    def test_refusals(self):
        for value in NO_INTEGERS + (-1, 201, 202, -200, 10 ** 11):
            self.refused(BadNumber, value, letters_of, ("n", "fs"), value)
            self.refused(BadNumber, value, letters_of, many=value, loss=("n", "fs"))
        for value in NO_LOSSES:
            self.refused(BadLoss, value, letters_of, value, 3)
            self.refused(BadLoss, value, letters_of, value, -1)
            self.refused(BadLoss, value, letters_of, value, True)


class Tail(Case):
    def test_all_kinds(self):
        for head, ring in LOSSES:
            wanted = ring[0] if set(ring) in ({"f"}, {"s"}) else "fair"
            self.told(wanted, tail, (head, ring))
        self.told("fair", tail, ("", "n"))
        self.told("fair", tail, ("f" * 200, "n"))
        self.told("f", tail, ("s" * 200, "f" * 200))
        self.told("s", tail, ("", "s" * 200))
        self.told("fair", tail, ("s" * 200, "s" * 199 + "n"))
        self.told("fair", tail, ("f", "f" * 199 + "s"))


class Shifted(Case):
    def test_letters_of_word_and_loss(self):
        for loss in losses_up_to(2, 3):
            for word in words_up_to(3):
                found = shifted(loss, word)
                self.told(least(found), shifted, loss, word)
                self.assertEqual(letters(found, 40), word + letters(loss, 40 - len(word)))
                self.told(tail(loss), tail, found)
                self.told(word, letters_of, found, len(word))

    def test_just_at_200(self):
        for head, ring in (("", "s"), ("n", "s"), ("n" * 140, "s"), ("n" * 200, "sf"), ("n" * 199, "sn" * 50), ("f", "n" * 199 + "s")):
            shortest, turned = least((head, ring))
            whole = len(shortest)
            for more in (199 - whole, 200 - whole, 201 - whole, 200):
                if not 0 <= more <= 200:
                    continue
                word = "f" * more
                if whole + more <= 200:
                    self.told((word + shortest, turned), shifted, (head, ring), word)
                else:
                    self.refused(TooLong, whole + more, shifted, (head, ring), word)

    def test_numbers_of_too_long_heads(self):
        self.refused(TooLong, 400, shifted, ("n" * 200, "s"), "f" * 200)
        self.refused(TooLong, 201, shifted, ("n", "s"), "f" * 200)
        self.refused(TooLong, 201, shifted, ("n" * 200, "s"), "f")
        self.refused(TooLong, 201, shifted, ("n" * 200, "ss" * 100), word="n")
        self.told(("f" * 200, "s"), shifted, ("", "s"), "f" * 200)
        self.told(("n" * 200, "s"), shifted, ("n" * 200, "s"), "")

    def test_heads_that_get_shorter(self):
        self.told(("", "n"), shifted, ("n" * 200, "n"), "n" * 200)
        self.told(("", "nf"), shifted, ("nf" * 100, "nfnf"), "nf" * 100)
        self.told(("f", "n"), shifted, ("n" * 200, "n" * 200), "f" + "n" * 199)
        self.told(("f" * 200, "n"), shifted, ("n" * 200, "n"), "f" * 200)
        self.told(("", "nfs"), shifted, ("nfs" * 66, "nfs"), "nfs" * 66)
        self.told(("s" * 198, "fn"), shifted, ("n", "fn"), "s" * 198 + "f")
        self.told(("s" * 199, "nf"), shifted, ("f" + "nf" * 90, "nf"), "s" * 199 + "n")
        # Without what gets shorter these heads would be as long as the word and the head together.
        self.refused(TooLong, 201, shifted, ("sn" + "n" * 198, "n"), "f" * 200)
        self.refused(TooLong, 201, shifted, ("n" * 100 + "s" * 100, "s"), "f" * 101)
        self.told(("f" * 100 + "n" * 100, "s"), shifted, ("n" * 100 + "s" * 100, "s"), "f" * 100)

    def test_letters_of_long_ones(self):
        words = ("", "n" * 200, "f" * 199, "nf" * 100, "nfs" * 66 + "n", "s" * 61)
        for loss, word in itertools.product(LONG, words):
            row = word + letters(loss, 800)
            try:
                head, ring = shifted(loss, word)
            except TooLong as error:
                self.assertGreater(error.value, 200)
                self.assertLessEqual(error.value, len(word) + len(loss[0]))
                ring = least(loss)[1]
                cut = error.value
                # From there on the row is the round again and again, and one letter ahead it is not.
                again = (row[cut:cut + len(ring)] * 900)[:len(row) - cut]
                self.assertEqual(again, row[cut:])
                self.assertNotEqual(row[cut - 1], row[cut - 1 + len(ring)])
            else:
                self.assertLessEqual(len(head), 200)
                self.assertEqual(letters((head, ring), len(row)), row)
                self.told((head, ring), least, (head, ring))

    def test_refusals(self):
        for value in NO_WORDS:
            self.refused(BadWord, value, shifted, ("n", "fs"), value)
        for value in NO_LOSSES:
            self.refused(BadLoss, value, shifted, value, "nf")
            self.refused(BadLoss, value, shifted, value, "x")
            self.refused(BadLoss, value, shifted, word=0, loss=value)


class Refusals(Case):
    def test_what_is_no_loss(self):
        for value in NO_LOSSES:
            self.refused(BadLoss, value, least, value)
            self.refused(BadLoss, value, tail, value)
            self.refused(BadLoss, value, are_alike, value, ("", "n"))
            self.refused(BadLoss, value, are_alike, ("", "n"), value)
            self.refused(BadLoss, value, are_alike, value, value)

    def test_the_first_of_two_stands_first(self):
        self.refused(BadLoss, "one", are_alike, "one", "other")
        self.refused(BadLoss, "one", are_alike, other="other", one="one")
        self.refused(BadLoss, EVERY, are_alike, EVERY, ("", ""))
        self.refused(BadLoss, ("", ""), are_alike, ("", ""), ("n" * 201, "n"))
