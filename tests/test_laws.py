"""What laws let, and with which words let losses begin."""

from tests.cases import Case
from tests.samples import (
    drawn_machines, EVERY, letters, losses_up_to, Machine, machines_of_two, NEVER, NO_LOSSES, NO_WORDS, words_up_to)
from twofarplayers.errors import BadLoss, BadWord
from twofarplayers.laws import after, begins, Law, lets, shows_some_loss, some_loss

TWO = machines_of_two()
THREE = drawn_machines(3, 300, 1)
SOME = TWO[::7] + THREE[::5] + drawn_machines(5, 40, 2) + drawn_machines(12, 20, 3)
LARGE = drawn_machines(64, 12, 4)


def chain(size):
    """A machine that is often at its last state alone, to which each fate leads on, and from there to itself."""
    return Machine([(min(at + 1, size - 1),) * 3 for at in range(size)], [at == size - 1 for at in range(size)])


def wheel(size):
    """A machine that n leads round, often at its last state alone; f and s lead off, for ever."""
    goals = [((at + 1) % (size - 1), size - 1, size - 1) for at in range(size - 1)] + [(size - 1,) * 3]
    return Machine(goals, [at == size - 2 for at in range(size)])


class After(Case):
    def test_state_behind_a_word(self):
        for machine in SOME:
            for word in words_up_to(3):
                self.told(machine.names[machine.path(word)[-1]], after, machine.rule, word)

    def test_long_words(self):
        for machine in LARGE:
            for word in ("n" * 200, "nfs" * 66 + "nf", "s" * 199):
                self.told(machine.names[machine.path(word)[-1]], after, machine.rule, word)

    def test_sequence_of_letters(self):
        rule = Law("law\nstate a\non n b\non f c\non s d\nstate b\non n b\non f b\non s b\nstate c\non n c\non f c\non s c"
                   "\nstate d\non n d\non f d\non s d")
        self.assertEqual([after(rule, word) for word in ("", "n", "f", "s", "nf", "fs", "sn")], list("abcdbcd"))


class Lets(Case):
    def test_by_going_on_and_on(self):
        losses = losses_up_to(2, 3)
        for machine in SOME:
            for loss in losses:
                self.told(machine.lets(loss), lets, machine.rule, loss)

    def test_long_losses(self):
        for machine in LARGE + [chain(64), wheel(64)]:
            for loss in (("n" * 200, "n" * 200), ("", "nfs" * 66 + "nn"), ("s" * 200, "f"), ("nf" * 100, "s" * 199 + "n")):
                self.told(machine.lets(loss), lets, machine.rule, loss)

    def test_often_states_that_come_just_once(self):
        once = Law("law\nstate a often\non n b\non f b\non s b\nstate b\non n b\non f b\non s b")
        for loss in losses_up_to(2, 2):
            self.told(False, lets, once, loss)

    def test_often_states_within_the_round(self):
        # Behind each whole round it stands on c, which is not often.
        rule = Law("law\nstate c\non n b\non f c\non s c\nstate b often\non n c\non f c\non s c")
        self.told(True, lets, rule, ("", "nf"))
        self.told(True, lets, rule, ("f", "ns"))
        self.told(False, lets, rule, ("nn", "fs"))

    def test_turns_of_the_round_that_come_once(self):
        # The first turn of the round comes to an often state, the later ones do not; and the other way round.
        early = Machine([(1, 1, 1), (2, 2, 2), (2, 2, 2)], [False, True, False])
        late = Machine([(1, 1, 1), (2, 2, 2), (2, 2, 2)], [False, False, True])
        by_turns = Machine([(1, 1, 1), (0, 0, 0)], [False, True])
        for loss in (("", "n"), ("", "nf"), ("n", "s"), ("nf", "sss")):
            self.told(False, lets, early.rule, loss)
            self.told(True, lets, late.rule, loss)
            self.told(True, lets, by_turns.rule, loss)

    def test_alike_losses(self):
        for machine in SOME:
            for head, ring in losses_up_to(1, 3):
                told = lets(machine.rule, (head, ring))
                for other in ((head + ring, ring), (head, ring * 2), (head, ring * 3), (head + ring[0], ring[1:] + ring[0])):
                    self.told(told, lets, machine.rule, other)


class Begins(Case):
    def test_statement_by_states(self):
        for machine in TWO + THREE + SOME:
            living = machine.living()
            for word in words_up_to(2):
                self.told(machine.path(word)[-1] in living, begins, machine.rule, word)

    def test_statement_by_losses(self):
        for machines, most in ((TWO, 2), (THREE[:40], 1)):
            for machine in machines:
                endings = losses_up_to(machine.size - 1, machine.size)
                for word in words_up_to(most):
                    found = any(machine.lets((word + head, ring)) for head, ring in endings)
                    self.told(found, begins, machine.rule, word)

    def test_let_losses_begin_with_beginnings_alone(self):
        for machine in SOME:
            for loss in losses_up_to(1, 2):
                if lets(machine.rule, loss):
                    for many in (0, 1, 2, 5, 200):
                        self.told(True, begins, machine.rule, letters(loss, many))

    def test_some_letter_more(self):
        for machine in SOME:
            for word in words_up_to(2):
                more = any(begins(machine.rule, word + fate) for fate in "nfs")
                self.told(more, begins, machine.rule, word)

    def test_some_letter_more_of_long_words(self):
        for machine in LARGE + [wheel(64), wheel(7)]:
            for many in (150, 199, 200):
                for word in ("n" * many, ("nfs" * 67)[:many], "n" * (many - 1) + "f"):
                    self.told(machine.begins(word), begins, machine.rule, word)
                    if many < 200:
                        more = any(begins(machine.rule, word + fate) for fate in "nfs")
                        self.told(more, begins, machine.rule, word)

    def test_far_often_states(self):
        self.told(True, begins, chain(64).rule, "")
        self.told(True, begins, wheel(64).rule, "n" * 200)
        self.told(False, begins, wheel(64).rule, "n" * 199 + "s")
        self.told(False, begins, NEVER, "")
        self.told(True, begins, EVERY, "nfs" * 66 + "nn")

    def test_often_state_that_leads_away(self):
        # a is often, and leads to nothing that comes back to it.
        rule = Law("law\nstate a often\non n b\non f b\non s b\nstate b\non n b\non f b\non s b")
        self.told(False, begins, rule, "")
        self.told(None, some_loss, rule)


class SomeLoss(Case):
    def test_it_is_let(self):
        for machine in TWO + THREE + SOME + LARGE:
            told = some_loss(machine.rule)
            self.told(told, some_loss, Law(machine.rule.text))
            self.assertEqual(told is None, 0 not in machine.living())
            self.assertTrue(told is None or machine.lets(told))
            self.told(True, shows_some_loss, machine.rule, told)
            self.told(told is None, shows_some_loss, machine.rule, None)

    def test_it_may_be_handed_in(self):
        for machine in LARGE + [chain(64), wheel(64), wheel(63)]:
            told = some_loss(machine.rule)
            self.assertTrue(told is None or lets(machine.rule, told))
        self.assertTrue(wheel(64).lets(some_loss(wheel(64).rule)))
        self.assertEqual(len(some_loss(chain(64).rule)[0]), 63)

    def test_what_is_right(self):
        losses = losses_up_to(2, 2)
        for machine in SOME:
            for loss in losses:
                self.told(machine.lets(loss), shows_some_loss, machine.rule, loss)

    def test_what_is_no_loss_is_not_right(self):
        for rule in (EVERY, NEVER):
            for value in NO_LOSSES + ("never", "none", False, 0, ("",), (None, None), ((), ())):
                self.told(value is None and rule == NEVER, shows_some_loss, rule, value)

    def test_losses_of_200_fates_and_of_201(self):
        self.told(True, shows_some_loss, EVERY, ("n" * 200, "fs" * 100))
        for value in (("n" * 201, "n"), ("", "n" * 201), ["", "n"], ("", "n", "n"), ("", ""), ("", "x"), (("", "n"),)):
            self.told(False, shows_some_loss, EVERY, value)


class Refusals(Case):
    def test_what_is_no_word(self):
        for rule in (EVERY, NEVER):
            for value in NO_WORDS:
                self.refused(BadWord, value, after, rule, value)
                self.refused(BadWord, value, begins, rule, value)
                self.refused(BadWord, value, begins, word=value, rule=rule)

    def test_what_is_no_loss(self):
        for rule in (EVERY, NEVER):
            for value in NO_LOSSES:
                self.refused(BadLoss, value, lets, rule, value)
                self.refused(BadLoss, value, lets, loss=value, rule=rule)

    def test_200_fates_are_taken(self):
        self.told("a", after, EVERY, "n" * 200)
        self.told(True, begins, EVERY, "s" * 200)
        self.told(True, lets, EVERY, ("n" * 200, "f" * 200))

    def test_a_refused_call_changes_nothing(self):
        rule = Law(EVERY.text)
        for value in NO_WORDS:
            self.refused(BadWord, value, after, rule, value)
        self.assertEqual((rule.text, rule.names, rule.often, len(rule)), (EVERY.text, ("a",), ("a",), 1))
        self.assertTrue(rule == EVERY)
