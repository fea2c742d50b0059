"""The row of all words: places, numbers, neighbours, and for whom words are blind."""

import itertools

from tests.cases import Case
from tests.samples import NO_INTEGERS, NO_WORDS, words_of, words_up_to
from twofarplayers.errors import BadNumber, BadPlace, BadWord, NotOne
from twofarplayers.rows import blind, neighbours, numbers, place, whole_row, word_at

LONG = ("n" * 200, "f" * 200, "s" * 200, "nfs" * 66 + "sn", "fs" * 100, "s" * 199 + "n", "f" * 199 + "n", "sfn" * 60, "n" * 77)


def row_of(rounds):
    """The row as the table makes it, from the row of one fate less."""
    row = [""]
    for _ in range(rounds):
        row = [word + fate for at, word in enumerate(row) for fate in ("fns" if at % 2 else "snf")]
    return row


def played(word):
    """Both players' numbers, as they make them round by round."""
    first, second = 0, 1
    for fate in word:
        first, second = (
            3 * first if fate == "s" else first + 2 * second, 3 * second if fate == "f" else second + 2 * first)
    return (first, second)


def heard(word):
    """All that each player has heard, and what the other one had heard when that was sent, and so on."""
    first, second = (), ()
    for fate in word:
        first, second = (first, None if fate == "s" else second), (second, None if fate == "f" else first)
    return (first, second)


class Places(Case):
    def test_whole_rows(self):
        for rounds in range(7):
            row = row_of(rounds)
            self.assertEqual(len(row), 3 ** rounds)
            self.told(tuple(row), whole_row, rounds)
            for at, word in enumerate(row):
                self.assertEqual(place(word), at)
                self.assertEqual(word_at(rounds, at), word)

    def test_there_and_back_of_long_words(self):
        for word in LONG:
            at = place(word)
            self.assertIs(type(at), int)
            self.assertTrue(0 <= at < 3 ** len(word))
            self.told(word, word_at, len(word), at)
        for rounds in (7, 40, 199, 200):
            for at in (0, 1, 2, 3 ** rounds // 2, 3 ** rounds - 2, 3 ** rounds - 1, 3 ** (rounds - 1), 5 ** rounds % 3 ** rounds):
                word = word_at(rounds, at)
                self.assertEqual(len(word), rounds)
                self.told(at, place, word)

    def test_ends_of_rows(self):
        for rounds in (1, 2, 5, 100, 200):
            self.told(0, place, "s" * rounds)
            self.told(3 ** rounds - 1, place, "f" * rounds)
            self.told("s" * rounds, word_at, rounds, 0)
            self.told("f" * rounds, word_at, rounds, 3 ** rounds - 1)
            self.told("n" * rounds, word_at, rounds, (3 ** rounds - 1) // 2)
        self.told("", word_at, 0, 0)
        self.told(0, place, "")

    def test_a_fate_more(self):
        for word in words_up_to(4) + [word[:199] for word in LONG]:
            at = place(word)
            more = {fate: place(word + fate) - 3 * at for fate in "snf"}
            self.assertEqual(more, {"s": 2, "n": 1, "f": 0} if at % 2 else {"s": 0, "n": 1, "f": 2})


class Numbers(Case):
    def test_as_the_players_make_them(self):
        for word in words_up_to(5) + list(LONG):
            self.told(played(word), numbers, word)

    def test_beside_the_place(self):
        for word in words_up_to(5) + list(LONG):
            at = place(word)
            self.assertEqual(sorted(numbers(word)), [at, at + 1])
            self.assertEqual(numbers(word)[0] % 2, 0)

    def test_who_never_heard(self):
        for word in words_up_to(5):
            first, second = numbers(word)
            self.assertEqual(first == 0, set(word) <= {"s"})
            self.assertEqual(second == 3 ** len(word), set(word) <= {"f"})


class Neighbours(Case):
    def test_whole_rows(self):
        for rounds in range(6):
            row = [None] + row_of(rounds) + [None]
            for at, word in enumerate(row[1:-1], 1):
                self.told((row[at - 1], row[at + 1]), neighbours, word)

    def test_ends(self):
        self.told((None, None), neighbours, "")
        for rounds in (1, 2, 40, 200):
            self.told((None, "s" * (rounds - 1) + "n"), neighbours, "s" * rounds)
            self.assertEqual(neighbours("f" * rounds)[1], None)
            self.assertEqual(place(neighbours("f" * rounds)[0]), 3 ** rounds - 2)

    def test_there_and_back(self):
        for word in words_up_to(4) + list(LONG):
            ahead, behind = neighbours(word)
            for side, other in ((0, behind), (1, ahead)):
                if other is not None:
                    self.assertEqual(len(other), len(word))
                    self.assertEqual(neighbours(other)[side], word)
                    self.assertEqual(abs(place(other) - place(word)), 1)


class Blind(Case):
    def test_against_what_each_has_heard(self):
        for rounds in range(5):
            told = {word: heard(word) for word in words_of(rounds)}
            for one, other in itertools.product(told, repeat=2):
                same = zip(("first", "second"), told[one], told[other])
                self.assertEqual(blind(one, other), tuple(player for player, here, there in same if here == there))

    def test_against_the_row(self):
        for rounds in range(5):
            for one, other in itertools.product(words_of(rounds), repeat=2):
                far = abs(place(one) - place(other))
                self.assertEqual(len(blind(one, other)), {0: 2, 1: 1}.get(far, 0))

    def test_told_values(self):
        self.told(("first", "second"), blind, "", "")
        self.told(("second",), blind, "sf", "nf")
        self.told(("first",), blind, "sn", "sf")
        self.told((), blind, "ss", "nn")

    def test_long_words(self):
        for word in LONG:
            self.told(("first", "second"), blind, word, word)
            for other in neighbours(word):
                if other is not None:
                    same = zip(("first", "second"), played(word), played(other))
                    self.told(tuple(player for player, here, there in same if here == there), blind, word, other)
                    self.assertEqual(len(blind(other, word)), 1)
        self.told((), blind, "n" * 200, "f" * 200)

    def test_refusals(self):
        for value in NO_WORDS:
            self.refused(BadWord, value, blind, value, "nf")
            self.refused(BadWord, value, blind, "nf", value)
            self.refused(BadWord, value, blind, value, value)
            self.refused(BadWord, value, blind, value, "n" * 201)
        self.refused(BadWord, "x", blind, "x", "y")
        self.refused(BadWord, "y", blind, "n", "y")
        self.refused(BadWord, "x", blind, other="yy", one="x")

    def test_not_one(self):
        for one, other in (("", "n"), ("n", ""), ("nf", "nfs"), ("s" * 200, "s" * 199), ("", "n" * 200)):
            self.refused(NotOne, (one, other), blind, one, other)
            self.refused(NotOne, (one, other), blind, other=other, one=one)


class Refusals(Case):
    def test_what_is_no_word(self):
        for value in NO_WORDS:
            for function in (place, numbers, neighbours):
                self.refused(BadWord, value, function, value)
                self.refused(BadWord, value, function, word=value)

    def test_rounds_of_word_at(self):
        for value in NO_INTEGERS + (-1, 201, 10 ** 11, -10 ** 11, 10 ** 500):
            for at in (0, -1, True, None, "0", 3 ** 201):
                self.refused(BadNumber, value, word_at, value, at)
                self.refused(BadNumber, value, word_at, at=at, rounds=value)

    def test_places(self):
        for rounds in (0, 1, 2, 20, 200):
            for value in NO_INTEGERS + (-1, 3 ** rounds, 3 ** rounds + 1, 3 ** 201, -3 ** 200, 10 ** 5000, -10 ** 5000):
                self.refused(BadPlace, value, word_at, rounds, value)
                self.refused(BadPlace, value, word_at, at=value, rounds=rounds)

    def test_rounds_of_whole_row(self):
        for value in NO_INTEGERS + (-1, 7, 8, 200, 10 ** 11, 10 ** 5000):
            self.refused(BadNumber, value, whole_row, value)
            self.refused(BadNumber, value, whole_row, rounds=value)
