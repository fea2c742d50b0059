"""The bench: its deeds, what is undone and done again, trials, copies, and when benches are equal."""

import random

from tests.bench_samples import FIRST, HEARD, NO_LAWS, TEXTS, as_it_is, ring
from tests.cases import Case
from tests.pair_samples import TOLD
from tests.samples import EVERY, NEVER, NO_LOSSES, NO_STRINGS, SURE, drawn_machines, machines_of_two, mild_machines
from twofarplayers.bench import Bench
from twofarplayers.errors import BadLaw, BadLoss, NothingToRedo, NothingToUndo, NoTrial, PlayError, TooMany
from twofarplayers.journals import journal, read_journal
from twofarplayers.laws import Law, lets
from twofarplayers.lawlots import barring, both, either, turned
from twofarplayers.pairs import Pair
from twofarplayers.verdicts import can_agree


class Stop(Exception):
    """What leaves a block in these tests."""


class Deeds(Case):
    def holds(self, bench, rule, done):
        self.assertIs(type(bench.rule), Law)
        self.assertEqual(bench.rule, rule)
        self.assertTrue(type(bench.done) is int and bench.done == done)
        self.assertIs(type(bench.verdict), str)
        self.assertEqual(bench.verdict, can_agree(rule)[0])

    def test_begin(self):
        for text in TEXTS:
            self.holds(Bench(text), Law(text), 0)
            self.holds(Bench(text=text), Law(text), 0)

    def test_wrong_texts(self):
        for value in NO_STRINGS + (Bench(HEARD), Pair(TOLD), (HEARD,)):
            self.refused(BadLaw, 0, Bench, value)
        for text, number in NO_LAWS:
            self.refused(BadLaw, number, Bench, text)
            self.refused(BadLaw, number, Bench, text=text)

    def test_each_deed(self):
        for text in TEXTS:
            for other in TEXTS:
                for name, told, rule in (
                        ("turn", (), turned(Law(text))), ("bar", (("nn", "sn"),), barring(Law(text), ("nn", "sn"))),
                        ("meet", (other,), both(Law(text), Law(other))), ("widen", (other,), either(Law(text), Law(other)))):
                    bench = Bench(text)
                    self.assertIsNone(getattr(bench, name)(*told))
                    self.holds(bench, rule, 1)
                    self.assertIsNone(bench.undo())
                    self.holds(bench, Law(text), 0)
                    self.assertIsNone(bench.redo())
                    self.holds(bench, rule, 1)

    def test_the_bench_comes_ahead_of_the_text(self):
        # By turns of names: the triples wait for the bench's law first.
        bench = Bench(HEARD)
        bench.meet(EVERY.text)
        self.assertEqual(bench.rule, both(Law(HEARD), EVERY))
        self.assertNotEqual(bench.rule, both(EVERY, Law(HEARD)))

    def test_by_name(self):
        bench = Bench(FIRST)
        bench.bar(loss=("", "n"))
        bench.meet(text=HEARD)
        bench.widen(text=SURE.text)
        rule = either(both(barring(Law(FIRST), ("", "n")), Law(HEARD)), SURE)
        self.holds(bench, rule, 3)

    def test_many_deeds(self):
        bench, rule = Bench(FIRST), Law(FIRST)
        for done in range(1, 60):
            if done % 5 == 0:
                bench.turn()
                rule = turned(rule)
            elif done % 7 == 0 and len(rule) < 20:
                loss = ("n" * (done % 3), "nfs"[:done % 4 or 1])
                bench.bar(loss)
                rule = barring(rule, loss)
            else:
                bench.meet(EVERY.text) if done % 2 else bench.widen(NEVER.text)
                rule = both(rule, EVERY) if done % 2 else either(rule, NEVER)
            self.holds(bench, rule, done)

    def test_a_deed_that_changes_nothing_is_a_deed(self):
        bench = Bench(EVERY.text)
        bench.turn()
        self.assertEqual((bench.rule, bench.done), (EVERY, 1))
        bench.undo()
        bench.turn()
        bench.turn()
        bench.undo()
        bench.turn()
        self.refused(NothingToRedo, None, bench.redo)
        self.assertEqual(bench.done, 2)

    def test_refused_deeds(self):
        bench = Bench(ring(33).rule.text)
        bench.turn()
        bench.turn()
        bench.undo()
        kept = as_it_is(bench)
        for value in NO_LOSSES:
            self.refused(BadLoss, value, bench.bar, value)
            self.refused(BadLoss, value, bench.bar, loss=value)
        for value in NO_STRINGS + (bench, EVERY):
            self.refused(BadLaw, 0, bench.meet, value)
            self.refused(BadLaw, 0, bench.widen, value)
        for text, number in NO_LAWS:
            self.refused(BadLaw, number, bench.meet, text)
            self.refused(BadLaw, number, bench.widen, text=text)
        self.refused(TooMany, 66, bench.bar, ("", "n"))
        self.refused(TooMany, 33 * 2, bench.widen, ring(2).rule.text)
        self.refused(TooMany, 33 * 5 * 2 // 2, bench.widen, ring(5).rule.text)
        # Often is the first state of each: waiting for one another lasts no longer than both rings do.
        self.refused(TooMany, 33 * 64, bench.widen, ring(64).rule.text)
        with self.assertRaises(TooMany):
            bench.meet(ring(64).rule.text)
        self.assertEqual(as_it_is(bench), kept)
        # What was taken back can still be done again, as refused ones are no deeds.
        bench.redo()
        self.assertEqual(bench.done, 2)

    def test_turned_laws_have_the_same_verdict(self):
        for machine in machines_of_two()[::17] + drawn_machines(6, 10, 1) + mild_machines(8, 10, 2):
            bench = Bench(machine.rule.text)
            verdict = bench.verdict
            bench.turn()
            self.assertEqual(bench.verdict, verdict)


class Undoing(Case):
    def test_nothing_to_undo_or_redo(self):
        bench = Bench(HEARD)
        self.refused(NothingToUndo, None, bench.undo)
        self.refused(NothingToRedo, None, bench.redo)
        bench.turn()
        self.refused(NothingToRedo, None, bench.redo)
        bench.undo()
        self.refused(NothingToUndo, None, bench.undo)
        bench.redo()
        self.refused(NothingToRedo, None, bench.redo)
        self.assertEqual((bench.done, bench.rule), (1, turned(Law(HEARD))))

    def test_there_and_back(self):
        bench = Bench(FIRST)
        rules, texts = [bench.rule], [journal(bench)]
        for deed in (bench.turn, lambda: bench.bar(("f", "s")), lambda: bench.meet(HEARD), bench.turn, lambda: bench.widen(SURE.text)):
            deed()
            rules.append(bench.rule)
            texts.append(journal(bench))
        for low in (4, 2, 0, 3):
            for at in range(5, low, -1):
                self.assertEqual((bench.rule, bench.done, journal(bench)), (rules[at], at, texts[at]))
                self.assertIsNone(bench.undo())
            for at in range(low, 5):
                self.assertEqual((bench.rule, bench.done, journal(bench)), (rules[at], at, texts[at]))
                self.assertEqual(bench.verdict, can_agree(rules[at])[0])
                self.assertIsNone(bench.redo())

    def test_another_deed_ends_what_can_be_done_again(self):
        for deed in ("turn", "bar", "meet", "widen"):
            bench = Bench(FIRST)
            bench.bar(("", "n"))
            bench.bar(("", "s"))
            bench.undo()
            bench.undo()
            getattr(bench, deed)(*{"turn": (), "bar": (("", "nf"),)}.get(deed, (HEARD,)))
            self.refused(NothingToRedo, None, bench.redo)
            self.assertEqual(bench.done, 1)
            bench.undo()
            bench.redo()
            self.assertEqual(bench.done, 1)
            self.refused(NothingToRedo, None, bench.redo)

    def test_refused_ones_end_nothing(self):
        bench = Bench(FIRST)
        bench.turn()
        bench.undo()
        self.refused(NothingToUndo, None, bench.undo)
        self.refused(BadLoss, None, bench.bar, None)
        self.refused(BadLaw, 2, bench.meet, "law")
        self.refused(NoTrial, None, bench.keep)
        bench.redo()
        self.assertEqual(bench.rule, turned(Law(FIRST)))


class Trials(Case):
    def bench(self):
        """Two deeds stand, and one can be done again."""
        bench = Bench(FIRST)
        bench.turn()
        bench.bar(("n", "s"))
        bench.meet(HEARD)
        bench.undo()
        return bench

    def test_not_kept(self):
        bench = self.bench()
        kept = as_it_is(bench)
        with bench.trial() as held:
            self.assertIs(held, bench)
            held.turn()
            held.bar(("", "n"))
            self.assertEqual(bench.done, 4)
            self.assertEqual(bench.rule, barring(turned(barring(turned(Law(FIRST)), ("n", "s"))), ("", "n")))
        self.assertEqual(as_it_is(bench), kept)
        bench.redo()
        self.assertEqual(bench.done, 3)

    def test_kept(self):
        bench = self.bench()
        with bench.trial() as held:
            held.turn()
            self.assertIsNone(held.keep())
            held.turn()
            inside = as_it_is(bench)
        self.assertEqual(as_it_is(bench), inside)
        self.assertEqual(bench.done, 4)
        bench.undo()
        bench.undo()
        self.assertEqual(bench.rule, barring(turned(Law(FIRST)), ("n", "s")))

    def test_undo_and_redo_reach_what_was_done_ahead(self):
        for keep in (False, True):
            bench = self.bench()
            kept = as_it_is(bench)
            with bench.trial():
                bench.redo()
                self.assertEqual(bench.done, 3)
                for _ in range(3):
                    bench.undo()
                self.refused(NothingToUndo, None, bench.undo)
                self.assertEqual(bench.rule, Law(FIRST))
                if keep:
                    bench.keep()
                inside = as_it_is(bench)
            self.assertEqual(as_it_is(bench), inside if keep else kept)
            self.assertEqual(bench.done, 0 if keep else 2)

    def test_other_deeds_in_place_of_what_was_done_ahead(self):
        bench = self.bench()
        kept = as_it_is(bench)
        with bench.trial():
            bench.undo()
            bench.turn()
            self.assertEqual(bench.done, 2)
        self.assertEqual(as_it_is(bench), kept)
        with bench.trial():
            bench.undo()
            bench.turn()
            bench.keep()
        self.assertEqual(journal(bench).split("\n")[-2:], ["turn", "turn"])

    def test_errors_leave_nothing(self):
        for keep in (False, True):
            bench = self.bench()
            kept = as_it_is(bench)
            error = Stop()
            with self.assertRaises(Stop) as caught:
                with bench.trial() as held:
                    held.undo()
                    held.widen(SURE.text)
                    if keep:
                        held.keep()
                    raise error
            self.assertIs(caught.exception, error)
            self.assertEqual(as_it_is(bench), kept)
            self.refused(NoTrial, None, bench.keep)
            with self.assertRaises(BadLoss) as caught:
                with bench.trial() as held:
                    held.turn()
                    held.keep()
                    held.bar("n")
            self.assertEqual(caught.exception.value, "n")
            self.assertEqual(as_it_is(bench), kept)

    def test_errors_caught_in_the_block(self):
        bench = self.bench()
        with bench.trial():
            bench.turn()
            self.refused(BadLoss, None, bench.bar, None)
            bench.keep()
        self.assertEqual(bench.done, 3)

    def test_within_one_another(self):
        for outer in (False, True):
            for inner in (False, True):
                for late in (False, True):
                    bench = self.bench()
                    kept = as_it_is(bench)
                    with bench.trial():
                        bench.turn()
                        if outer and not late:
                            bench.keep()
                        with bench.trial():
                            bench.bar(("", "sf"))
                            if inner:
                                bench.keep()
                        self.assertEqual(bench.done, 4 if inner else 3)
                        if outer and late:
                            bench.keep()
                    if outer:
                        self.assertEqual(bench.done, 4 if inner else 3)
                    else:
                        self.assertEqual(as_it_is(bench), kept)

    def test_within_one_another_by_keeps_and_errors(self):
        for outer in ("never", "early", "late"):
            for inner in (False, True):
                for left in ((), ("inner",), ("outer",), ("inner", "outer")):
                    with self.subTest(outer=outer, inner=inner, left=left):
                        self.two_blocks(outer, inner, left)

    def two_blocks(self, outer, inner, left):
        """A block within another one: when the outer one keeps, whether the inner one does, and which an error leaves."""
        bench, error = self.bench(), Stop()
        before = as_it_is(bench)
        try:
            with bench.trial():
                bench.undo()
                if outer == "early":
                    bench.keep()
                expected = self.inner_block(bench, inner, left, error)
                if outer == "late":
                    bench.keep()
                if "outer" in left:
                    raise error
        except Stop as caught:
            self.assertIs(caught, error)
            self.assertIn("outer", left)
        else:
            self.assertNotIn("outer", left)
        if "outer" in left or outer == "never":
            expected = before
        self.assertEqual(as_it_is(bench), expected)
        self.refused(NoTrial, None, bench.keep)

    def inner_block(self, bench, keeps, left, error):
        """Goes through the inner block; how the bench should be, and is, behind it."""
        expected = as_it_is(bench)
        try:
            with bench.trial():
                bench.bar(("", "sf"))
                bench.turn()
                bench.undo()
                if keeps:
                    bench.keep()
                    if "inner" not in left:
                        expected = as_it_is(bench)
                if "inner" in left:
                    raise error
        except Stop as caught:
            self.assertIs(caught, error)
            self.assertEqual(as_it_is(bench), expected)
            if "outer" in left:
                raise
        self.assertEqual(as_it_is(bench), expected)
        return expected

    def test_errors_that_leave_the_inner_block_alone(self):
        bench = self.bench()
        with bench.trial():
            bench.turn()
            bench.keep()
            try:
                with bench.trial():
                    bench.turn()
                    bench.keep()
                    raise Stop
            except Stop:
                pass
            self.assertEqual(bench.done, 3)
        self.assertEqual(bench.done, 3)

    def test_one_behind_the_other(self):
        bench = self.bench()
        with bench.trial():
            bench.turn()
            bench.keep()
        with bench.trial():
            bench.turn()
        self.assertEqual(bench.done, 3)
        self.refused(NoTrial, None, bench.keep)

    def test_keep_outside(self):
        bench = self.bench()
        kept = as_it_is(bench)
        self.refused(NoTrial, None, bench.keep)
        with bench.trial():
            pass
        self.refused(NoTrial, None, bench.keep)
        block = bench.trial()
        # It is not entered yet.
        self.refused(NoTrial, None, bench.keep)
        self.assertEqual(as_it_is(bench), kept)
        bench.turn()
        with block:
            bench.turn()
        self.assertEqual(bench.done, 3)

    def test_as_it_was_when_the_block_was_entered(self):
        bench = self.bench()
        block = bench.trial()
        bench.undo()
        with block as held:
            held.turn()
        self.assertEqual(bench.done, 1)
        bench.redo()
        bench.redo()
        self.assertEqual(bench.done, 3)


class Tried(Case):
    def test_not_kept_but_for_true(self):
        for keep in (False, None, 1, 2, "yes", (True,), [True], "True", 0, EVERY):
            bench = Trials.bench(self)
            kept = as_it_is(bench)
            self.assertEqual(bench.tried(lambda held: [held.turn(), held.done], keep=keep), [None, 3])
            self.assertEqual(as_it_is(bench), kept)
        bench = Trials.bench(self)
        kept = as_it_is(bench)
        self.assertEqual(bench.tried(look=lambda held: [held.turn(), held.undo(), held.undo(), held.done]), [None, None, None, 1])
        self.assertEqual(as_it_is(bench), kept)

    def test_kept(self):
        bench = Trials.bench(self)
        self.assertEqual(bench.tried(lambda held: held.turn(), keep=True), None)
        self.assertEqual(bench.done, 3)
        self.assertEqual(bench.tried(keep=True, look=lambda held: (held.undo(), held.undo(), held.done)), (None, None, 1))
        self.assertEqual(bench.done, 1)

    def test_a_look_that_keeps(self):
        for keep in (False, True):
            bench = Trials.bench(self)
            self.assertEqual(bench.tried(lambda held: (held.turn(), held.keep(), held.turn(), held.verdict), keep=keep)[:3], (None,) * 3)
            self.assertEqual(bench.done, 4)
        self.refused(NoTrial, None, bench.keep)

    def test_what_is_returned(self):
        bench = Bench(HEARD)
        for value in ([], {}, EVERY, None, "x", bench, (1, [2])):
            self.assertIs(bench.tried(lambda held: value), value)
        self.assertIs(bench.tried(lambda held: held), bench)

    def test_errors_pass_on(self):
        for keep in (False, True):
            bench = Trials.bench(self)
            kept = as_it_is(bench)
            self.refused(BadLoss, 7, bench.tried, lambda held: (held.turn(), held.bar(7)), keep=keep)
            self.assertEqual(as_it_is(bench), kept)
            self.refused(BadLoss, 7, bench.tried, lambda held: (held.turn(), held.keep(), held.bar(7)), keep=keep)
            self.assertEqual(as_it_is(bench), kept)
            self.refused(NoTrial, None, bench.keep)

    def test_looks_within_looks(self):
        bench = Trials.bench(self)
        bench.tried(lambda held: (held.turn(), held.tried(lambda inner: inner.turn(), keep=True), held.tried(lambda inner: inner.turn())), keep=True)
        self.assertEqual(bench.done, 4)
        # The look keeps for the inner block alone.
        bench.tried(lambda held: (held.turn(), held.tried(lambda inner: (inner.turn(), inner.keep()))))
        self.assertEqual(bench.done, 4)

    def test_keep_is_told_by_name_alone(self):
        with self.assertRaises(TypeError):
            Bench(HEARD).tried(lambda held: None, True)


class Copies(Case):
    def test_alike_in_all_things(self):
        bench = Trials.bench(self)
        other = bench.copy()
        self.assertIs(type(other), Bench)
        self.assertIsNot(other, bench)
        self.assertEqual(as_it_is(other), as_it_is(bench))
        self.assertTrue(other == bench)

    def test_independent(self):
        bench = Trials.bench(self)
        kept = as_it_is(bench)
        other = bench.copy()
        other.redo()
        other.turn()
        other.bar(("", "n"))
        self.assertEqual(as_it_is(bench), kept)
        changed = as_it_is(other)
        bench.undo()
        bench.undo()
        bench.widen(EVERY.text)
        self.assertEqual(as_it_is(other), changed)

    def test_made_within_a_block(self):
        bench = Trials.bench(self)
        with bench.trial():
            bench.turn()
            other = bench.copy()
            inside = as_it_is(bench)
            self.refused(NoTrial, None, other.keep)
            other.turn()
            bench.bar(("", "n"))
            with other.trial():
                other.undo()
                other.undo()
                other.keep()
            self.assertEqual((bench.done, other.done), (4, 2))
        self.assertEqual((bench.done, other.done), (2, 2))
        other.redo()
        self.assertEqual(as_it_is(other)[:4], inside[:4])
        # The block of the bench is none of its copy's, which stays as it is when that one ends with an error.
        try:
            with bench.trial():
                other = bench.copy()
                other.turn()
                raise Stop
        except Stop:
            pass
        self.assertEqual(other.done, 3)


class Equality(Case):
    def test_by_their_journals(self):
        bench, other = Trials.bench(self), Trials.bench(self)
        self.assertTrue(bench == other)
        self.assertFalse(bench != other)
        # What can be done again is in no journal.
        other.redo()
        self.assertFalse(bench == other)
        other.undo()
        other.undo()
        other.bar(("n", "s"))
        self.assertTrue(bench == other)
        other.undo()
        other.bar(("n", "ss"))
        self.assertFalse(bench == other)
        self.assertEqual(bench.rule, other.rule)
        self.assertTrue(Bench(HEARD) == Bench(HEARD))
        self.assertFalse(Bench(HEARD) == Bench(FIRST))
        self.assertTrue(Bench(HEARD) != Bench(FIRST))

    def test_the_same_law_by_other_ways(self):
        bench, other = Bench(EVERY.text), Bench(EVERY.text)
        bench.turn()
        self.assertEqual(bench.rule, other.rule)
        self.assertFalse(bench == other)
        other.turn()
        self.assertTrue(bench == other)

    def test_nothing_else(self):
        bench = Bench(HEARD)
        for other in (journal(bench), HEARD, bench.rule, None, 0, True, (), [], {}, (bench,), Pair(TOLD)):
            self.assertFalse(bench == other)
            self.assertFalse(other == bench)
            self.assertTrue(bench != other)


class Model:
    """What a bench should be, told by a list of laws and lines."""

    def __init__(self, text):
        self.past, self.ahead = [("", Law(text))], []

    def state(self):
        return (list(self.past), list(self.ahead))


class LongStories(Case):
    """Deeds of all kinds by chance, with trials within one another, beside a plain model."""

    def go(self, bench, model, chance, many, deep):
        for _ in range(many):
            deed = chance.choice(("turn", "bar", "meet", "widen", "undo", "undo", "redo", "wrong", "trial", "tried", "read"))
            rule = model.past[-1][1]
            if deed == "turn":
                self.do(bench.turn, (), model, "turn", lambda: turned(rule))
            elif deed == "bar":
                loss = (chance.choice(("", "n", "fs")), chance.choice(("n", "nf", "s", "ff")))
                line = f"bar {loss[0] or '-'} {loss[1]}"
                self.do(bench.bar, (loss,), model, line, lambda: barring(rule, loss))
            elif deed in ("meet", "widen"):
                text, function = chance.choice(TEXTS), both if deed == "meet" else either
                line = deed + " " + text.replace("\n", ";")
                self.do(getattr(bench, deed), (text,), model, line, lambda: function(rule, Law(text)))
            elif deed == "undo" and len(model.past) > 1:
                bench.undo()
                model.ahead.insert(0, model.past.pop())
            elif deed == "redo" and model.ahead:
                bench.redo()
                model.past.append(model.ahead.pop(0))
            elif deed == "wrong":
                self.refused(BadLoss, 1, bench.bar, 1)
                self.refused(BadLaw, 1, bench.meet, "")
            elif deed == "read":
                self.assertEqual(read_journal(journal(bench)).rule, bench.rule)
            elif deed in ("trial", "tried") and deep:
                self.block(bench, model, chance, deep, deed)
            self.agree(bench, model)

    def block(self, bench, model, chance, deep, deed):
        before, end = model.state(), chance.choice(("keep", "leave", "error"))
        def look(held):
            self.go(held, model, chance, 4, deep - 1)
            if end == "keep" or (end == "error" and chance.randrange(2)):
                held.keep()
            self.go(held, model, chance, 2, deep - 1)
            if end == "error":
                raise Stop
        try:
            if deed == "tried":
                bench.tried(look)
            else:
                with bench.trial() as held:
                    look(held)
        except Stop:
            self.assertEqual(end, "error")
        if end != "keep":
            model.past[:], model.ahead[:] = before

    def do(self, deed, told, model, line, told_rule):
        try:
            rule = told_rule()
        except PlayError as error:
            self.refused(type(error), error.value, deed, *told)
        else:
            self.assertIsNone(deed(*told))
            model.past.append((line, rule))
            model.ahead.clear()

    def agree(self, bench, model):
        self.assertEqual((bench.rule, bench.done), (model.past[-1][1], len(model.past) - 1))
        self.assertEqual(journal(bench), "\n".join(["bench", model.past[0][1].text] + [line for line, _ in model.past[1:]]))

    def test_stories(self):
        for seed in range(40):
            chance = random.Random(seed)
            text = TEXTS[seed % len(TEXTS)]
            bench, model = Bench(text), Model(text)
            self.go(bench, model, chance, 40, 3)
            self.assertEqual(bench.verdict, can_agree(bench.rule)[0])
            self.refused(NoTrial, None, bench.keep)
            self.assertEqual(len(as_it_is(bench)), 4 + 2 * len(model.ahead) + len(model.past) - 1)
            for loss in (("", "n"), ("f", "s")):
                self.assertEqual(lets(bench.rule, loss), lets(model.past[-1][1], loss))
