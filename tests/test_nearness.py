"""Ends near one another: what near, gap, needed and widest tell, by fractions of Python's own."""

import itertools
import random
from fractions import Fraction

from tests.cases import Case
from tests.samples import EVERY, NO_INTEGERS, NO_STRINGS, NO_WORDS, nested, words_of, words_up_to
from twofarplayers.errors import BadDistance, BadEnds, BadNumber, BadWord, BadWorths
from twofarplayers.nearness import gap, near, needed, widest
from twofarplayers.rows import numbers, whole_row

PARTS = ((0, 1), (1, 1), (-1, 1), (1, 3), (-2, 7), (5, 2), (7, 1), (-9, 4), (10 ** 11, 7), (-7, 10 ** 11), (1, 3 ** 20), (27, 10))
WORTHS = tuple(itertools.product(PARTS, repeat=2))
NO_FRACTIONS = NO_STRINGS + NO_INTEGERS + (
    (), (1,), (1, 1, 1), (0, 0), (1, 0), (-1, 0), (1, -1), (-1, -1), (0, 2), (0, -1), (2, 2), (2, 4), (-2, 4), (6, 3), (10, 100),
    (True, 1), (1, True), (False, 1), (0, True), (True, True), ("1", 1), (1, "1"), (None, 1), (1, None), ((1, 1), 1), (1, (1,)),
    [1, 2], [0, 1], {1: 2}, ((1, 2),), (EVERY, 1), (1, EVERY), "12", 12, 1, 0, (3 ** 30, 3), nested((1, 2), 20))
NO_WORTHS = NO_STRINGS + NO_INTEGERS + (
    (), ((0, 1),), ((0, 1), (1, 1), (1, 1)), [(0, 1), (1, 1)], (0, 1), (1, 1), ((0, 1), (1, 1), None), {(0, 1): (1, 1)},
    (((0, 1), (1, 1)),), ((0, 1, 1), (1, 1)), nested(((0, 1), (1, 1)), 20)) + tuple(
    (part, (1, 1)) for part in NO_FRACTIONS) + tuple(((0, 1), part) for part in NO_FRACTIONS)


def told_as(number):
    """A fraction of Python's own as the document tells it."""
    return (number.numerator, number.denominator)


def ends_of(worths, word):
    """The ends of near, as fractions of Python's own."""
    one, other = [Fraction(*worth) for worth in worths]
    return [one + (other - one) * Fraction(number, 3 ** len(word)) for number in numbers(word)]


def gap_of(worths, rounds):
    return abs(Fraction(*worths[0]) - Fraction(*worths[1])) / 3 ** rounds


class Near(Case):
    def test_near(self):
        words = words_up_to(3) + ["nfs" * 20, "s" * 100, "f" * 200, "n" * 200, "sfn" * 66]
        for worths in WORTHS:
            for word in words[::3]:
                self.told(tuple(told_as(end) for end in ends_of(worths, word)), near, worths, word)

    def test_told_ends(self):
        worths = ((0, 1), (1, 1))
        self.told(((4, 9), (1, 3)), near, worths, "nf")
        self.told(((0, 1), (1, 27)), near, worths, "sss")
        self.told(((26, 27), (1, 1)), near, worths, "fff")
        self.told(((0, 1), (1, 1)), near, worths, "")
        self.told(((1, 1), (4, 1)), near, ((7, 1), (-2, 1)), "n")
        self.told(((-1, 2), (-1, 2)), near, ((-1, 2), (-1, 2)), "nfs")

    def test_who_never_heard_ends_on_the_own_worth(self):
        for worths in WORTHS:
            for rounds in (0, 1, 2, 5, 200):
                self.assertEqual(near(worths, "s" * rounds)[0], worths[0])
                self.assertEqual(near(worths, "f" * rounds)[1], worths[1])

    def test_the_same_number_the_same_end(self):
        for worths in WORTHS[::5]:
            for rounds in range(4):
                row = whole_row(rounds)
                for at in range(len(row) - 1):
                    player = 0 if at % 2 else 1
                    self.assertEqual(near(worths, row[at])[player], near(worths, row[at + 1])[player])

    def test_ends_lie_between_the_worths(self):
        for worths in WORTHS:
            low, high = sorted(Fraction(*worth) for worth in worths)
            for word in words_of(3):
                for end in near(worths, word):
                    self.assertTrue(low <= Fraction(*end) <= high)

    def test_what_was_told_may_be_handed_in_again(self):
        worths = ((1, 7), (-5, 3))
        for word in ("n" * 200, "f" * 199 + "n", "nfs" * 66):
            told = near(worths, word)
            self.told(tuple(told_as(end) for end in ends_of(told, word)), near, told, word)
            self.told(told_as(gap_of(told, 200)), gap, told, 200)
            self.told(200, needed, told, gap(told, 200))


class Gaps(Case):
    def test_gap(self):
        for worths in WORTHS:
            for rounds in (0, 1, 2, 3, 20, 21, 199, 200):
                self.told(told_as(gap_of(worths, rounds)), gap, worths, rounds)

    def test_gap_is_how_far_the_ends_are_apart(self):
        for worths in WORTHS[::3]:
            for word in words_up_to(3) + ["nfs" * 66, "s" * 200]:
                one, other = [Fraction(*end) for end in near(worths, word)]
                self.assertEqual(abs(one - other), Fraction(*gap(worths, len(word))))

    def test_equal_worths(self):
        for part in PARTS:
            for rounds in (0, 1, 200):
                self.told((0, 1), gap, (part, part), rounds)
            for distance in ((1, 1), (1, 10 ** 11), (10 ** 11, 1)):
                self.told(0, needed, (part, part), distance)

    def test_needed(self):
        distances = [(1, 1), (1, 2), (1, 3), (1, 9), (1, 10), (2, 3), (10 ** 11, 1), (1, 10 ** 11), (7, 10 ** 11), (100, 3), (1, 3 ** 20)]
        for worths in WORTHS:
            for distance in distances:
                told = needed(worths, distance)
                self.told(told, needed, worths, distance)
                self.assertGreaterEqual(told, 0)
                self.assertTrue(gap_of(worths, told) <= Fraction(*distance))
                self.assertTrue(told == 0 or gap_of(worths, told - 1) > Fraction(*distance))

    def test_distances_met_exactly(self):
        for worths in WORTHS[1::7]:
            if worths[0] != worths[1]:
                for rounds in (0, 1, 2, 10, 100, 200):
                    top, bottom = gap(worths, rounds)
                    self.told(rounds, needed, worths, (top, bottom))
                    below = Fraction(top, bottom) - Fraction(1, bottom ** 2)
                    if below > 0:
                        self.told(rounds + 1, needed, worths, told_as(below))
                    self.told(rounds, needed, worths, told_as(Fraction(top, bottom) + Fraction(1, bottom ** 2 * 9)))

    def test_told_numbers(self):
        self.told(5, needed, ((0, 1), (1, 1)), (1, 100))
        self.told(0, needed, ((0, 1), (1, 1)), (1, 1))
        self.told(0, needed, ((0, 1), (1, 1)), (3, 1))
        self.told(1, needed, ((0, 1), (1, 1)), (2, 3))
        self.told(1, needed, ((0, 1), (1, 1)), (1, 3))
        self.told(2, needed, ((1, 1), (0, 1)), (1, 4))
        self.told(0, needed, ((5, 2), (5, 2)), (1, 9))


def drawn_ends(rounds, chance):
    parts = [chance.choice(PARTS[:8]) for _ in range(3 ** rounds + 1)]
    return tuple(parts)


class Widest(Case):
    def by_looking(self, ends):
        """By all words of so many fates, as the row tells them."""
        rounds = {3 ** rounds + 1: rounds for rounds in range(6)}[len(ends)]
        row = whole_row(rounds)
        found = []
        for at, word in enumerate(row):
            first, second = numbers(word)
            found.append((-abs(Fraction(*ends[first]) - Fraction(*ends[second])), at, word))
        best = min(found)
        return (best[2], told_as(-best[0]))

    def test_widest(self):
        chance = random.Random(1)
        for rounds in range(6):
            for _ in range(40 if rounds < 4 else 6):
                ends = drawn_ends(rounds, chance)
                self.told(self.by_looking(ends), widest, ends)

    def test_told_ones(self):
        self.told(("n", (1, 1)), widest, ((0, 1), (0, 1), (1, 1), (1, 1)))
        self.told(("s", (1, 3)), widest, ((0, 1), (1, 3), (2, 3), (1, 1)))
        self.told(("s", (1, 2)), widest, ((0, 1), (1, 2), (1, 2), (1, 1)))
        self.told(("f", (5, 1)), widest, ((0, 1), (1, 2), (1, 1), (-4, 1)))
        self.told(("", (5, 2)), widest, ((1, 2), (-2, 1)))

    def test_several_farthest_apart(self):
        for rounds in range(6):
            many = 3 ** rounds
            flat = ((1, 2),) * (many + 1)
            self.told(("s" * rounds, (0, 1)), widest, flat)
            steps = tuple(told_as(Fraction(at, many)) for at in range(many + 1))
            self.told(("s" * rounds, (1, many)), widest, steps)
            self.told(("s" * rounds, (1, many)), widest, tuple(reversed(steps)))
            for at in range(0, many, 1 + many // 9):
                # One step here, and the like of it everywhere behind.
                ends = ((0, 1),) * (at + 1) + tuple((k % 2, 1) for k in range(1, many - at + 1))
                self.told((whole_row(rounds)[at], (1, 1)), widest, ends)

    def test_no_way_is_nearer_than_gap(self):
        chance = random.Random(2)
        for rounds in range(6):
            for worths in WORTHS[::9]:
                ends = (worths[0],) + drawn_ends(rounds, chance)[1:-1] + (worths[1],)
                self.assertGreaterEqual(Fraction(*widest(ends)[1]), gap_of(worths, rounds))
            row = whole_row(rounds)
            for worths in WORTHS[::9]:
                by_number = {}
                for word in row:
                    by_number.update(zip(numbers(word), near(worths, word)))
                ends = tuple(by_number[number] for number in range(3 ** rounds + 1))
                self.assertEqual(widest(ends)[1], gap(worths, rounds))

    def test_great_fractions(self):
        ends = ((1, 3 ** 200), (0, 1), (2, 3 ** 200), (1, 3 ** 201))
        self.told(("n", (2, 3 ** 200)), widest, ends)
        self.told(("f", (2, 3 ** 200)), widest, ((0, 1), (1, 3 ** 200), (2, 3 ** 200), (4, 3 ** 200)))


class Refusals(Case):
    def test_worths(self):
        for value in NO_WORTHS:
            for wrong in (None, "x", -1, (0, 1), [], True):
                self.refused(BadWorths, value, near, value, wrong)
                self.refused(BadWorths, value, gap, value, wrong)
                self.refused(BadWorths, value, needed, value, wrong)
            self.refused(BadWorths, value, near, word="n", worths=value)
            self.refused(BadWorths, value, gap, rounds=3, worths=value)
            self.refused(BadWorths, value, needed, distance=(1, 3), worths=value)

    def test_words_and_numbers(self):
        worths = ((0, 1), (1, 1))
        for value in NO_WORDS:
            self.refused(BadWord, value, near, worths, value)
            self.refused(BadWord, value, near, word=value, worths=worths)
        for value in NO_INTEGERS + (-1, 201, 202, 10 ** 11, -10 ** 11):
            self.refused(BadNumber, value, gap, worths, value)
            self.refused(BadNumber, value, gap, rounds=value, worths=worths)

    def test_distances(self):
        for worths in (((0, 1), (1, 1)), ((1, 2), (1, 2))):
            for value in NO_FRACTIONS + ((0, 1), (-1, 1), (-1, 3), (-10 ** 11, 1)):
                self.refused(BadDistance, value, needed, worths, value)
                self.refused(BadDistance, value, needed, distance=value, worths=worths)

    def test_ends(self):
        right = {size: ((0, 1), (1, 2)) * (size // 2) for size in (2, 4, 10, 28, 82, 244)}
        for size, ends in right.items():
            self.assertEqual(widest(ends)[1], (1, 2))
            for value in (ends[1:], ends + ends[:1], list(ends), (ends,), ends + ends, ends[:-1] + (None,), ends[:-1] + ((2, 2),)):
                if value not in right.values():
                    self.refused(BadEnds, value, widest, value)
            for part in NO_FRACTIONS:
                self.refused(BadEnds, ends[:-1] + (part,), widest, ends[:-1] + (part,))
                self.refused(BadEnds, (part,) + ends[1:], widest, ends=(part,) + ends[1:])
        for size in set(range(300)) - set(right):
            value = ((0, 1),) * size
            self.refused(BadEnds, value, widest, value)
        for value in (((0, 1),) * 730, ((0, 1),) * 729) + NO_STRINGS + NO_INTEGERS:
            self.refused(BadEnds, value, widest, value)
