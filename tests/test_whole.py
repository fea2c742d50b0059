"""The sections of the document one behind the other, as its points (b), (c), (e) and (h) join them."""

import itertools

from tests.cases import Case
from tests.pair_samples import calling, drawn_duos, hopeful_duos, waiting
from tests.samples import (
    EVERY, LONE, Machine, NEVER, SURE, TWINS, WISHES, barring as machine_barring, drawn_machines, losses_up_to, machines_of_two,
    mild_machines, words_up_to)
from twofarplayers.bench import Bench
from twofarplayers.desk import Desk
from twofarplayers.errors import NotGood, PlayError
from twofarplayers.journals import journal, read_journal
from twofarplayers.judging import judged, latest, outcomes, shows_judged
from twofarplayers.laws import Law, after, begins, lets, shows_some_loss, some_loss
from twofarplayers.lawlots import barring, both, either, lets_all, shows_lets_all, turned
from twofarplayers.losses import are_alike, letters_of, tail
from twofarplayers.pairs import ends, played
from twofarplayers.rounds import cut, ended, least_rounds, many_beginnings, shows_why_rounds, why_rounds
from twofarplayers.rows import place
from twofarplayers.talks import mark, talk
from twofarplayers.tasks import Task, least_solving
from twofarplayers.twins import twins
from twofarplayers.verdicts import bars_fair, bars_twins, can_agree, shows_can_agree

MACHINES = machines_of_two()[::13] + drawn_machines(4, 20, 1) + mild_machines(6, 12, 2) + [
    machine_barring([loss]) for loss in LONE[::3]] + [machine_barring(list(pair)) for pair in TWINS[::2]] + [
    machine_barring(list(pair)[:1]) for pair in TWINS[::3]]
RULES = [machine.rule for machine in MACHINES] + [EVERY, NEVER, SURE]
LOSSES = losses_up_to(1, 2) + [("nfs", "s"), ("ffsn", "fs"), ("nn", "nfs"), ("sn", "f"), ("nns", "s"), ("nnn", "s")]
DUOS = drawn_duos(3, 4, 1, 0.4) + hopeful_duos(4, 6, 2) + [waiting(2), calling(True), calling(False)]
LAW_OF_ONE_WISH = "given o o ends o o\ngiven i i ends i i\n"


class AgreedExactly(Case):
    """(b), (c): where can_agree tells yes, talk by the told barred ones brings both to an end; where it tells no, nothing does."""

    def test_where_it_tells_yes(self):
        seen = set()
        for rule in RULES:
            word, barred = can_agree(rule)
            if word == "yes":
                seen.add(len(barred))
                for loss in LOSSES:
                    if lets(rule, loss):
                        self.ends_alike(barred, loss)
                    if any(are_alike(loss, other) for other in barred):
                        self.assertFalse(lets(rule, loss))
                        self.assertEqual(talk(barred, (0, 1), loss, 200), (None, None))
        self.assertEqual(seen, {1, 2})

    def ends_alike(self, barred, loss):
        sides = set()
        for wishes in WISHES:
            one, other = talk(barred, wishes, loss, 200)
            self.assertEqual(one[1], other[1])
            self.assertIn(one[1], wishes)
            if wishes[0] != wishes[1]:
                sides.add(wishes.index(one[1]))
            # Where the loss's place is by then below the mark, it is the first one's wish.
            rounds = max(one[0], other[0])
            below = place(letters_of(loss, rounds)) < mark(barred, rounds)
            self.assertEqual(one[1], wishes[0] if below else wishes[1])
        self.assertEqual(len(sides), 1)

    def test_where_it_tells_no(self):
        for rule in RULES:
            if can_agree(rule)[0] == "no":
                self.assertEqual((bars_fair(rule), bars_twins(rule)), (None, None))
                for loss in LOSSES:
                    if tail(loss) == "fair" or twins(loss) == ():
                        self.assertTrue(lets(rule, loss))
                    else:
                        self.assertTrue(lets(rule, loss) or lets(rule, twins(loss)[0]))
                for duo in DUOS:
                    self.assertEqual(judged(rule, duo.pair)[0], "bad")

    def test_barring_what_has_to_be_barred(self):
        for loss in LONE:
            self.assertEqual(can_agree(barring(EVERY, loss))[0], "yes")
        for one, other in TWINS:
            first, second = barring(EVERY, one), barring(EVERY, other)
            both_barred = barring(first, other)
            self.assertEqual([can_agree(rule)[0] for rule in (first, second, both_barred)], ["no", "no", "yes"])
            word, barred = can_agree(both_barred)
            self.assertTrue(are_alike(barred[0], one) or are_alike(barred[0], other))
            self.assertEqual(lets_all(both(first, second), both_barred), ("all",))
            self.assertEqual(lets_all(both_barred, both(first, second)), ("all",))
            self.assertEqual(can_agree(either(first, second))[0], "no")


class PairsAndLaws(Case):
    """(d), (e): pairs, and how many rounds are enough."""

    def test_judged(self):
        for rule in RULES:
            for duo in DUOS:
                told = judged(rule, duo.pair)
                self.assertTrue(shows_judged(rule, duo.pair, told))
                if told == ("good",):
                    self.assertEqual(can_agree(rule)[0], "yes")
                    self.good(rule, duo)
                else:
                    self.refused(NotGood, None, latest, rule, duo.pair)
                    self.assertTrue(lets(rule, told[2]))
                    values = tuple("-" if end is None else end[1] for end in ends(duo.pair, told[1], told[2]))
                    self.assertIn(values, outcomes(rule, duo.pair, told[1]))

    def good(self, rule, duo):
        last, least = latest(rule, duo.pair), least_rounds(rule)
        self.assertEqual(last == -1, some_loss(rule) is None)
        for wishes in WISHES:
            told = outcomes(rule, duo.pair, wishes)
            self.assertLessEqual(set(told), {(wish, wish) for wish in wishes})
            for loss in LOSSES:
                if lets(rule, loss):
                    one, other = ends(duo.pair, wishes, loss)
                    self.assertIn((one[1], other[1]), told)
                    if last is not None:
                        self.assertLessEqual(max(one[0], other[0]), last)
                        self.assertEqual(played(duo.pair, wishes, letters_of(loss, last)), (one, other))
        if last is not None and last >= 0:
            self.assertTrue(least is not None and least <= last)

    def test_laws_whose_losses_are_all_let(self):
        for one, other in itertools.product(RULES[::4], RULES[1::4]):
            if lets_all(one, other) == ("all",):
                for duo in DUOS:
                    if judged(other, duo.pair) == ("good",):
                        self.assertEqual(judged(one, duo.pair), ("good",))
                least = least_rounds(other)
                if least is not None:
                    self.assertLessEqual(least_rounds(one), least)

    def test_enough_rounds_are_a_way(self):
        for rule in RULES:
            least = least_rounds(rule)
            if least is not None:
                self.assertEqual(can_agree(rule)[0], "yes")
                for word in words_up_to(4):
                    if len(word) >= least and begins(rule, word):
                        at = cut(rule, len(word))
                        for wishes in WISHES:
                            self.assertEqual(ended(rule, len(word), wishes, word), wishes[0] if place(word) < at else wishes[1])
            self.assertTrue(shows_why_rounds(rule, why_rounds(rule)))
            self.assertTrue(shows_some_loss(rule, some_loss(rule)))

    def test_where_all_can_come_no_rounds_are_enough(self):
        # The task of this document: alike, on a wish; and a law that lets all.
        lines = [f"given {one} {other} ends {end} {end}" for one, other in ("oi", "io") for end in "oi"]
        task = Task("task\nfirst o i\nsecond o i\n" + LAW_OF_ONE_WISH + "\n".join(lines))
        self.assertIsNone(least_solving(task, 5))
        self.assertEqual((least_rounds(EVERY), can_agree(EVERY)), (None, ("no", ())))
        for rounds in range(6):
            self.assertEqual(many_beginnings(EVERY, rounds), 3 ** rounds)


class LawsOfLaws(Case):
    """(h), and the bench."""

    def test_turned_laws(self):
        for rule in RULES:
            self.assertEqual(can_agree(rule)[0], can_agree(turned(rule))[0])
            self.assertEqual(least_rounds(rule), least_rounds(turned(rule)))
            self.assertEqual(turned(turned(rule)), rule)
            for rounds in (0, 1, 2, 30):
                self.assertEqual(many_beginnings(rule, rounds), many_beginnings(turned(rule), rounds))

    def test_put_together(self):
        for one, other in itertools.product(RULES[::5], RULES[2::5]):
            meet, join = both(one, other), either(one, other)
            self.assertEqual([lets_all(meet, one), lets_all(meet, other)], [("all",)] * 2)
            self.assertEqual([lets_all(one, join), lets_all(other, join)], [("all",)] * 2)
            self.assertEqual(lets_all(meet, join), ("all",))
            if "yes" in (can_agree(one)[0], can_agree(other)[0]):
                self.assertEqual(can_agree(meet)[0], "yes")
            if "no" in (can_agree(one)[0], can_agree(other)[0]):
                self.assertEqual(can_agree(join)[0], "no")
            for loss in LOSSES[::3]:
                self.assertEqual(lets(meet, loss), lets(one, loss) and lets(other, loss))
                self.assertEqual(lets(join, loss), lets(one, loss) or lets(other, loss))
                self.assertEqual(shows_lets_all(one, other, ("parting", loss)), lets(one, loss) and not lets(other, loss))
            for word in words_up_to(2):
                self.assertTrue(begins(join, word) == (begins(one, word) or begins(other, word)))
                self.assertTrue(not begins(meet, word) or (begins(one, word) and begins(other, word)))

    def test_bench_and_desk(self):
        for rule in RULES[::2]:
            bench = Bench(rule.text)
            for deed in (bench.turn, lambda: bench.bar(("n", "fs")), lambda: bench.meet(SURE.text), lambda: bench.widen(rule.text)):
                try:
                    deed()
                except PlayError:
                    continue
                self.assertEqual(bench.verdict, can_agree(bench.rule)[0])
                desk = Desk(journal(bench))
                self.assertEqual(desk.bench, bench)
                self.assertEqual(desk.say("verdict"), bench.verdict)
                least = least_rounds(bench.rule)
                self.assertEqual(desk.say("rounds"), "none" if least is None else str(least))
                for head, turns in LOSSES[::5]:
                    self.assertEqual(desk.say(f"lets {head or '-'} {turns}"), "yes" if lets(bench.rule, (head, turns)) else "no")
                    self.assertEqual(desk.say(f"begins {turns}"), "yes" if begins(bench.rule, turns) else "no")
            while bench.done:
                verdict = bench.verdict
                self.assertEqual(bench.tried(lambda held: (held.turn(), held.verdict)), (None, verdict))
                bench.undo()
            self.assertEqual(bench.rule, rule)

    def test_laws_stay_as_they_are(self):
        kept = [(rule, rule.text, rule.names, rule.often, len(rule), {name: dict(row) for name, row in rule.steps.items()}) for rule in RULES]
        for rule in RULES:
            for other in RULES[::9]:
                for function in (both, either, lets_all):
                    self.assertEqual(function(rule, other), function(rule, other))
            barring(rule, ("n", "f"))
            Bench(rule.text).tried(lambda held: held.turn())
            self.assertEqual(after(rule, "nfs"), after(Law(rule.text), "nfs"))
            self.assertTrue(shows_can_agree(Law(rule.text), can_agree(rule)))
            for duo in DUOS[::4]:
                self.assertEqual(judged(rule, duo.pair), judged(Law(rule.text), duo.pair))
        for rule, text, names, often, many, steps in kept:
            self.assertEqual((rule.text, rule.names, rule.often, len(rule), rule.steps), (text, names, often, many, steps))

    def test_read_journals_go_on_alike(self):
        bench = Bench(EVERY.text)
        bench.bar(("n", "s"))
        other = read_journal(journal(bench))
        self.assertEqual([bench.verdict, other.verdict], ["no", "no"])
        for one in (bench, other):
            one.bar(("f", "s"))
        self.assertEqual([bench.verdict, other.verdict, bench == other], ["yes", "yes", True])
        word, barred = can_agree(bench.rule)
        self.assertEqual({are_alike(loss, ("n", "s")) or are_alike(loss, ("f", "s")) for loss in barred}, {True})
        only = Machine([(0, 0, 0)], [True]).rule
        self.assertEqual(lets_all(bench.rule, only), ("all",))
