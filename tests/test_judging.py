"""Pairs judged: the told losses lead astray, good pairs end well; how late; and on what."""

import itertools

from tests.cases import Case
from tests.pair_samples import Duo, ODD, RASH, TOLD, by_wishes, calling, drawn_duos, hopeful_duos, waiting
from tests.samples import (
    EVERY, LONE, Machine, NEVER, NO_LOSSES, NO_WISHES, SURE, TWINS, VALUES, WISHES, barring, drawn_machines, losses_up_to,
    machines_of_two, mild_machines, nested)
from twofarplayers.errors import BadWishes, NotGood
from twofarplayers.judging import judged, latest, outcomes, shows_judged
from twofarplayers.laws import Law, lets
from twofarplayers.losses import least
from twofarplayers.pairs import Pair, ends
from twofarplayers.rounds import least_rounds
from twofarplayers.verdicts import can_agree

NOTHING = Machine([(0, 0, 0)], [False])
ALL = Machine([(0, 0, 0)], [True])
# Letting n for ever alone; all in which the first one's letter comes again and again; those with one lost letter at most.
LITTLE = Machine([(0, 1, 1), (1, 1, 1)], [True, False])
AGAIN = Machine([(0, 1, 0), (0, 1, 0)], [True, False])
ONCE = Machine([(0, 1, 1), (1, 2, 2), (2, 2, 2)], [True, True, False])
MACHINES = [NOTHING, ALL, LITTLE, AGAIN, ONCE] + machines_of_two()[::23] + drawn_machines(4, 12, 3) + mild_machines(5, 6, 4)
MACHINES += [barring([LONE[0]]), barring(list(TWINS[0]))]
DUOS = drawn_duos(2, 6, 5) + drawn_duos(3, 8, 6, 0.5) + hopeful_duos(4, 24, 7) + [
    waiting(0), waiting(1), waiting(3), calling(True), calling(False)]
PAIRS = list(itertools.product(MACHINES, DUOS))
WORDS = ("never", "unlike", "nobody")


def goes_wrong(word, values, wishes):
    """Whether what the word tells goes wrong by these values, None for never."""
    if word == "never":
        return None in values
    if word == "unlike":
        return set(values) == {0, 1}
    return any(end is not None and end not in wishes for end in values)


def is_good(machine, duo):
    """Whether nothing goes wrong along any loss that is let."""
    return not any(
        goes_wrong(word, values, wishes) for wishes in WISHES for values in duo.finals(machine, wishes) for word in WORDS)


def values_of(duo, wishes, loss):
    return tuple(None if told is None else told[1] for told in duo.ends(wishes, loss))


GOOD = [(machine, duo) for machine, duo in PAIRS if is_good(machine, duo)]
BAD = [(machine, duo) for machine, duo in PAIRS if not is_good(machine, duo)]


class Judged(Case):
    def test_there_are_enough_of_all_kinds(self):
        self.assertGreater(len(GOOD), 20)
        self.assertGreater(len([1 for machine, duo in GOOD if machine is not NOTHING]), 15)
        self.assertEqual({judged(machine.rule, duo.pair)[3] for machine, duo in BAD}, set(WORDS))

    def test_good_ones(self):
        for machine, duo in GOOD:
            self.told(("good",), judged, machine.rule, duo.pair)
            self.told(True, shows_judged, machine.rule, duo.pair, ("good",))

    def test_bad_ones(self):
        for machine, duo in BAD:
            told = judged(machine.rule, duo.pair)
            self.told(told, judged, Law(machine.rule.text), Pair(duo.pair.text))
            self.told(False, shows_judged, machine.rule, duo.pair, ("good",))
            self.told(True, shows_judged, machine.rule, duo.pair, told)
            self.assertEqual((len(told), told[0]), (4, "bad"))
            self.assertIn(told[1], WISHES)
            self.assertTrue(machine.lets(told[2]))
            self.assertTrue(goes_wrong(told[3], values_of(duo, told[1], told[2]), told[1]))
            self.assertEqual(lets(machine.rule, told[2]), True)
            found = ends(duo.pair, told[1], told[2])
            self.assertTrue(goes_wrong(told[3], tuple(end and end[1] for end in found), told[1]))

    def test_bad_with_some_wishes_alone(self):
        good = {wishes: (wishes[0], wishes[0]) for wishes in WISHES}
        self.told(("good",), judged, SURE, by_wishes(good).pair)
        self.told(1, latest, SURE, by_wishes(good).pair)
        for wishes in WISHES:
            for values, words in (((0, 1), ("unlike",)), ((None, wishes[0]), ("never",)), ((wishes[1], None), ("never",)),
                                  ((None, None), ("never",)), ((1 - wishes[0],) * 2, ("nobody",)), ((1, 0), ("unlike",))):
                pair = by_wishes({**good, wishes: values}).pair
                told = judged(SURE, pair)
                if wishes[0] != wishes[1] and words == ("nobody",):
                    self.assertEqual(told, ("good",))
                    continue
                if wishes[0] == wishes[1]:
                    words += ("nobody",) if 1 - wishes[0] in values else ()
                self.assertEqual((told[:2], least(told[2])), (("bad", wishes), ("", "n")))
                self.assertIn(told[3], words)
                self.refused(NotGood, None, latest, SURE, pair)
                for other, word in itertools.product(WISHES, WORDS):
                    right = other == wishes and word in words
                    self.told(right, shows_judged, SURE, pair, ("bad", other, ("n", "nn"), word))
                shown = tuple("-" if end is None else end for end in values)
                self.told((shown,), outcomes, SURE, pair, wishes)

    def test_law_without_a_way(self):
        for machine in MACHINES:
            if can_agree(machine.rule)[0] == "no":
                for duo in DUOS + drawn_duos(5, 4, 8):
                    self.assertEqual(judged(machine.rule, duo.pair)[0], "bad")

    def test_law_that_lets_nothing(self):
        for duo in DUOS:
            self.told(("good",), judged, NEVER, duo.pair)
            for told in (("bad", (0, 1), ("", "n"), word) for word in WORDS):
                self.told(False, shows_judged, NEVER, duo.pair, told)

    def test_large_ones(self):
        for machine in drawn_machines(64, 2, 9) + mild_machines(64, 2, 9):
            for duo in drawn_duos(12, 2, 10, 0.02) + hopeful_duos(12, 2, 11):
                told = judged(machine.rule, duo.pair)
                self.told(True, shows_judged, machine.rule, duo.pair, told)
                if told[0] == "bad":
                    self.assertTrue(machine.lets(told[2]))
                    self.assertTrue(goes_wrong(told[3], values_of(duo, told[1], told[2]), told[1]))


class LongLosses(Case):
    """Losses with more than 200 fates in head or round, as they are told, and as they are shown."""

    def ring(self, size):
        """It lets one loss alone: s, but n in each round with a number that this size divides."""
        rows = [(size, size, at + 1) for at in range(size - 1)] + [(0, size, size), (size, size, size)]
        return Machine(rows, [at == 0 for at in range(size + 1)])

    def test_long_heads(self):
        # The first one hears one letter in 63 rounds, calls b behind the tenth, and ends on 0 behind the eleventh.
        first = [(0, None, (at + 1,) * 3 + (at,)) for at in range(10)] + [(1, None, (11,) * 3 + (10,)), (0, 0, (11,) * 4)]
        second = [(0, None, (0, 1, 0, 0)), (1, 0, (1,) * 4)]
        duo = Duo(((0, 0), (0, 0)), [first, second])
        machine = self.ring(63)
        told = judged(machine.rule, duo.pair)
        self.assertEqual((told[:2], told[3]), (("bad", (1, 1)), "nobody"))
        self.assertGreater(len(told[2][0]), 600)
        self.assertTrue(machine.lets(told[2]))
        self.assertEqual(duo.ends((1, 1), told[2]), ((693, 0), (631, 0)))
        self.told(True, shows_judged, machine.rule, duo.pair, told)

    def test_long_rings(self):
        machine = self.ring(63)
        for size in (5, 11):
            first = [(at % 2, None, ((at + 1) % size,) * 4) for at in range(size)]
            second = [(0, None, ((at + 1) % 4,) * 4) for at in range(4)]
            duo = Duo(((0, 0), (0, 0)), [first, second])
            told = judged(machine.rule, duo.pair)
            self.assertEqual((told[0], told[3]), ("bad", "never"))
            self.assertGreater(len(told[2][1]), 200)
            self.assertTrue(machine.lets(told[2]))
            self.told(True, shows_judged, machine.rule, duo.pair, told)

    def test_values_of_great_length(self):
        machine = self.ring(63)
        duo = waiting(3)
        right = "s" * 62 + "n"
        for times in (1, 3, 4, 30, 60):
            for head in (0, 1, 4, 40):
                self.told(True, shows_judged, machine.rule, duo.pair, ("bad", (1, 1), (right * head, right * times), "nobody"))
                self.told(False, shows_judged, machine.rule, duo.pair, ("bad", (0, 1), (right * head, right * times), "nobody"))
                for loss in ((right * head, right * times + "n"), (right * head + "s", right * times), ("n" + right * head, right)):
                    self.told(False, shows_judged, machine.rule, duo.pair, ("bad", (1, 1), loss, "nobody"))
        for loss in (("n" * 201, "n"), ("", "n" * 201), ("nfs" * 1000, "fs" * 1500)):
            self.told(True, shows_judged, EVERY, Pair(ODD), ("bad", (1, 1), loss, "nobody"))
            self.told(False, shows_judged, NEVER, Pair(ODD), ("bad", (1, 1), loss, "nobody"))
            self.told(False, shows_judged, EVERY, Pair(ODD), ("bad", (1, 0), loss, "nobody"))
            self.told(False, shows_judged, EVERY, Pair(ODD), ("bad", (1, 1), loss, "never"))
        for loss in (("n" * 201, ""), ("n" * 3000 + "x", "n"), ("n" * 3000, "n" * 300 + " "), ("n" * 300, ["n" * 300])):
            self.told(False, shows_judged, EVERY, Pair(ODD), ("bad", (1, 1), loss, "nobody"))

    def test_late_turns(self):
        # Behind 1200 rounds the first letter comes through; then the second one ends.
        told = Pair(TOLD)
        for word, right in (("never", False), ("unlike", False), ("nobody", False)):
            self.told(right, shows_judged, EVERY, told, ("bad", (0, 1), ("f" * 1200, "n"), word))
            self.told(right, shows_judged, EVERY, told, ("bad", (0, 1), ("f" * 1200, "f" * 999 + "s"), word))
        self.told(True, shows_judged, EVERY, told, ("bad", (0, 1), ("f" * 1200, "f" * 999), "never"))


class ShowsJudged(Case):
    def test_losses_of_all_kinds(self):
        losses = losses_up_to(1, 2)
        for machine, duo in BAD[::9] + GOOD[::9]:
            for wishes, loss, word in itertools.product(WISHES, losses[::2], WORDS):
                right = machine.lets(loss) and goes_wrong(word, values_of(duo, wishes, loss), wishes)
                self.told(right, shows_judged, machine.rule, duo.pair, ("bad", wishes, loss, word))

    def test_values_near_right_ones(self):
        for machine, duo in BAD[::7]:
            told = judged(machine.rule, duo.pair)
            _, wishes, loss, word = told
            rule, pair = machine.rule, duo.pair
            for value in (
                    told[:3], told[1:], told[:2], ("bad",), (), told + (None,), told + (word,), list(told), (told,), [told],
                    ("Bad",) + told[1:], ("good",) + told[1:], (None,) + told[1:], (True,) + told[1:], ("",) + told[1:],
                    ("bad", list(wishes), loss, word), ("bad", None, loss, word), ("bad", wishes[:1], loss, word),
                    ("bad", wishes + (0,), loss, word), ("bad", tuple(map(bool, wishes)), loss, word), ("bad", (2, 0), loss, word),
                    ("bad", wishes, list(loss), word), ("bad", wishes, loss[:1], word), ("bad", wishes, loss + ("n",), word),
                    ("bad", wishes, None, word), ("bad", wishes, (loss[0], ""), word), ("bad", wishes, (loss[0], loss[1] + "x"), word),
                    ("bad", wishes, (loss[0] + " ", loss[1]), word), ("bad", wishes, (None, loss[1]), word),
                    ("bad", wishes, (list(loss[0]), loss[1]), word), ("bad", wishes, loss, word.upper()), ("bad", wishes, loss, ""),
                    ("bad", wishes, loss, None), ("bad", wishes, loss, True), ("bad", wishes, loss, (word,)), ("bad", wishes, loss, [word]),
                    ("bad", wishes, loss, {}), ("bad", wishes, loss, "good"), ("bad", wishes, loss, word[:-1]), ("bad", loss, wishes, word),
                    ("good", None), ["good"], "good", ("Good",), ("good", "good")):
                self.told(False, shows_judged, rule, pair, value)
            head, ring = loss
            for same in ((head + ring, ring), (head, ring * 3), (head + ring * 250, ring * 250), (head + ring[:1], ring[1:] + ring[:1])):
                self.told(True, shows_judged, rule, pair, ("bad", wishes, same, word))
        self.assertIs(shows_judged(value=("good",), pair=Pair(ODD), rule=NEVER), True)

    def test_values_of_any_kind(self):
        for value in VALUES + tuple(nested(value, 27) for value in VALUES) + (Pair(TOLD), (Pair(TOLD),)):
            for rule, pair in ((EVERY, Pair(ODD)), (NEVER, Pair(ODD)), (SURE, Pair(TOLD))):
                self.told(False, shows_judged, rule, pair, value)
                self.told(False, shows_judged, rule, pair, ("bad", value, ("", "n"), "unlike"))
                self.told(False, shows_judged, rule, pair, ("bad", (0, 1), ("", "n"), value))
                self.told(False, shows_judged, rule, pair, (value, (1, 1), ("", "n"), "nobody"))
                self.told(False, shows_judged, rule, pair, ("good", value))
        for value in NO_LOSSES:
            long = type(value) is tuple and len(value) == 2 and value in (("n" * 201, "n"), ("", "n" * 201), ("n" * 201,) * 2)
            self.told(long, shows_judged, EVERY, Pair(ODD), ("bad", (1, 1), value, "nobody"))
        for value in NO_WISHES:
            self.told(False, shows_judged, EVERY, Pair(ODD), ("bad", value, ("", "n"), "nobody"))

    def test_of_nobody_one_end_is_enough(self):
        # The first one ends on 0 at once, the second one never.
        pair = Pair("pair\nfirst z z\nstate z a 0 z z z z\nsecond w w\nstate w c - w w w w")
        for word, wishes, right in (
                ("nobody", (1, 1), True), ("nobody", (0, 1), False), ("nobody", (1, 0), False), ("nobody", (0, 0), False),
                ("never", (1, 1), True), ("never", (0, 0), True), ("unlike", (1, 1), False), ("unlike", (0, 1), False)):
            self.told(right, shows_judged, EVERY, pair, ("bad", wishes, ("nf", "s"), word))
        turned = Pair("pair\nfirst w w\nstate w c - w w w w\nsecond z z\nstate z a 0 z z z z")
        self.told(True, shows_judged, EVERY, turned, ("bad", (1, 1), ("nf", "s"), "nobody"))
        # Both on unlike values, one of them nobody's wish: both words are right.
        rash = Pair("pair\nfirst z z\nstate z a 0 z z z z\nsecond z z\nstate z a 1 z z z z")
        for wishes in WISHES:
            self.told(True, shows_judged, EVERY, rash, ("bad", wishes, ("", "n"), "unlike"))
            self.told(wishes[0] == wishes[1], shows_judged, EVERY, rash, ("bad", wishes, ("", "n"), "nobody"))


class Latest(Case):
    def test_of_good_ones(self):
        for machine, duo in GOOD:
            self.told(duo.latest(machine), latest, machine.rule, duo.pair)

    def test_of_bad_ones(self):
        for machine, duo in BAD:
            self.refused(NotGood, None, latest, machine.rule, duo.pair)
        self.refused(NotGood, None, latest, pair=Pair(RASH), rule=SURE)

    def test_told_numbers(self):
        for rounds in range(12):
            # With the wishes 1 and 1 these end on nobody's wish, unless nothing is let.
            self.told(-1, latest, NEVER, waiting(rounds).pair)
            self.refused(NotGood, None, latest, EVERY, waiting(rounds).pair)
        self.told(1, latest, SURE, Pair(TOLD))
        self.told(None, latest, AGAIN.rule, Pair(TOLD))
        self.told(2, latest, ONCE.rule, Pair(TOLD))
        self.told(-1, latest, NEVER, Pair(ODD))

    def test_number_and_enough_rounds(self):
        for machine, duo in GOOD:
            told, least = latest(machine.rule, duo.pair), least_rounds(machine.rule)
            if told is not None and told >= 0:
                self.assertTrue(least is not None and least <= told)

    def test_all_wishes_and_losses_count(self):
        # The first one waits longer with the wish 1, and calls its wish when it ends; the second one waits for the call.
        first = [(2, None, (1,) * 4), (2, None, (2,) * 4), (0, 0, (2,) * 4), (2, None, (4,) * 4), (2, None, (5,) * 4),
                 (2, None, (6,) * 4), (1, 1, (6,) * 4)]
        second = [(2, None, (1, 2, 0, 0)), (2, 0, (1,) * 4), (2, 1, (2,) * 4)]
        self.told(4, latest, SURE, Duo(((0, 3), (0, 0)), [first, second]).pair)
        self.told(3, latest, SURE, Duo(((0, 6), (0, 0)), [first, second]).pair)
        self.told(5, latest, ONCE.rule, Duo(((0, 3), (0, 0)), [first, second]).pair)


class Outcomes(Case):
    def test_by_all_that_can_be(self):
        for machine, duo in PAIRS:
            for wishes in WISHES:
                found = [tuple("-" if end is None else end for end in values) for values in duo.finals(machine, wishes)]
                wanted = tuple(sorted(found, key=lambda both: [str(end).replace("-", "2") for end in both]))
                self.told(wanted, outcomes, machine.rule, duo.pair, wishes)

    def test_losses_end_on_them(self):
        losses = losses_up_to(1, 2)
        for machine, duo in PAIRS[::5]:
            for wishes in WISHES:
                told = outcomes(machine.rule, duo.pair, wishes)
                for loss in losses[::3]:
                    if machine.lets(loss):
                        self.assertIn(tuple("-" if end is None else end for end in values_of(duo, wishes, loss)), told)

    def test_sequence(self):
        # By what they hear in the first four rounds each one comes to 0, to 1, or to no end.
        rows = ["state w a - x x x n", "state x a - y y y n", "state y a - v v v o", "state v a - z z z o",
                "state n a - n n n n", "state z a 0 z z z z", "state o a 1 o o o o"]
        pair = Pair("\n".join(["pair", "first w w"] + rows + ["second w w"] + rows))
        wanted = ((0, 0), (0, 1), (0, "-"), (1, 0), (1, 1), (1, "-"), ("-", 0), ("-", 1), ("-", "-"))
        for wishes in WISHES:
            self.told(wanted, outcomes, EVERY, pair, wishes)
            self.told(((0, 0),), outcomes, SURE, pair, wishes)
        no_f = Machine([(0, 1, 0), (1, 1, 1)], [True, False])
        self.told(((0, 0), (1, 0), ("-", 0)), outcomes, no_f.rule, pair, (0, 1))

    def test_of_little_laws(self):
        for duo in DUOS:
            for wishes in WISHES:
                self.told((), outcomes, NEVER, duo.pair, wishes)
                values = tuple("-" if end is None else end for end in values_of(duo, wishes, ("", "n")))
                self.told((values,), outcomes, SURE, duo.pair, wishes)

    def test_wrong_wishes(self):
        for value in NO_WISHES:
            for rule in (EVERY, NEVER):
                self.refused(BadWishes, value, outcomes, rule, Pair(TOLD), value)
                self.refused(BadWishes, value, outcomes, wishes=value, pair=Pair(TOLD), rule=rule)
