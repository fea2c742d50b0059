"""The desk: every form of line that it takes, and what it refuses."""

from tests.bench_samples import FIRST, FLAT, HEARD, LINES, NO_LAWS, TEXTS, WHOLE, as_it_is, ring
from tests.cases import Case
from tests.samples import EVERY, Machine, NEVER, NO_STRINGS, SURE, losses_up_to, plain, words_up_to
from twofarplayers.bench import Bench
from twofarplayers.desk import Desk
from twofarplayers.errors import (
    BadJournal, BadLaw, BadLoss, BadWord, BadWords, NothingToRedo, NothingToUndo, TooMany)
from twofarplayers.journals import journal, read_journal
from twofarplayers.laws import Law, begins, lets
from twofarplayers.lawlots import barring, both, either, turned
from twofarplayers.rounds import least_rounds
from twofarplayers.verdicts import can_agree

ONCE = (
    "law\nstate g often\non n g\non f h\non s h\nstate h often\non n h\non f b\non s b\nstate b\non n b\non f b\non s b")


def desk_of(text):
    return Desk("bench\n" + text)


class Begin(Case):
    def test_the_bench_of_the_journal(self):
        desk = Desk(WHOLE)
        self.assertIs(type(desk.bench), Bench)
        self.assertTrue(desk.bench == read_journal(WHOLE))
        self.assertEqual(journal(Desk(text=WHOLE).bench), WHOLE)

    def test_the_very_bench(self):
        desk = Desk(WHOLE)
        bench = desk.bench
        self.told("ok", lambda: desk.say("turn"))
        self.assertIs(desk.bench, bench)
        self.assertEqual(bench.done, 7)
        bench.undo()
        bench.undo()
        bench.undo()
        self.assertEqual(desk.say("redo"), "ok")
        self.assertEqual(bench.done, 5)
        with bench.trial():
            desk.say("bar - nf")
            self.assertEqual(desk.say("lets - nf"), "no")
        self.assertEqual(bench.done, 5)

    def test_no_journals(self):
        for value in NO_STRINGS + (LINES, Bench(HEARD)):
            self.refused(BadJournal, 0, Desk, value)
        for text, number in (("", 1), ("bench", 2), (HEARD, 1), (WHOLE + "\n", 16), (WHOLE + "\nturn\nbar n", 17), ("bench\nlaw\nturn", 3)):
            self.refused(BadJournal, number, Desk, text)
            self.refused(BadJournal, number, Desk, text=text)
        for text, number in NO_LAWS:
            self.refused(BadJournal, number + 1, desk_of, text)


class Answers(Case):
    def test_deeds(self):
        for text in TEXTS:
            for line, rule in (
                    ("turn", turned(Law(text))), ("bar - nf", barring(Law(text), ("", "nf"))), ("bar ss n", barring(Law(text), ("ss", "n"))),
                    ("meet " + FLAT, both(Law(text), Law(HEARD))), ("widen " + FLAT, either(Law(text), Law(HEARD)))):
                desk = desk_of(text)
                self.assertEqual(desk.say(line), "ok")
                self.assertTrue(plain(desk.say("undo")))
                self.assertEqual(desk.bench.rule, Law(text))
                self.assertEqual(desk.say(line="redo"), "ok")
                self.assertEqual((desk.bench.rule, desk.bench.done), (rule, 1))
                self.assertEqual(journal(desk.bench), "bench\n" + text + "\n" + line)

    def test_verdict(self):
        for text in TEXTS + (ONCE,):
            desk = desk_of(text)
            self.assertEqual(desk.say("verdict"), can_agree(Law(text))[0])
            self.assertEqual(desk.say("verdict"), desk.bench.verdict)
        desk = desk_of(EVERY.text)
        said = [desk.say(line) for line in ("verdict", "bar n s", "verdict", "bar f s", "verdict", "undo", "verdict", "redo", "verdict")]
        self.assertEqual(said, ["no", "ok", "no", "ok", "yes", "ok", "no", "ok", "yes"])

    def test_lets(self):
        for text in TEXTS + (ONCE,):
            desk = desk_of(text)
            for head, turns in losses_up_to(1, 2) + [("n" * 200, "s" * 200)]:
                wanted = "yes" if lets(Law(text), (head, turns)) else "no"
                self.told(wanted, desk.say, f"lets {head or '-'} {turns}")

    def test_begins(self):
        for text in TEXTS + (ONCE,):
            desk = desk_of(text)
            for word in words_up_to(3) + ["n" * 200]:
                wanted = "yes" if begins(Law(text), word) else "no"
                self.told(wanted, desk.say, "begins " + (word or "-"))
        self.told("no", desk_of(NEVER.text).say, "begins -")
        self.told("yes", desk_of(SURE.text).say, "begins -")

    def test_rounds(self):
        for text, wanted in ((EVERY.text, "none"), (NEVER.text, "0"), (SURE.text, "1"), (ONCE, "2"), (HEARD, "none")):
            self.told(wanted, desk_of(text).say, "rounds")
            self.assertEqual(wanted.replace("none", "None"), str(least_rounds(Law(text))))
        # Twelve rounds of n lead to where nothing is let.
        falling = Machine([(at + 1, 0, 0) for at in range(12)] + [(12, 12, 12)], [at < 12 for at in range(13)])
        self.told("12", desk_of(falling.rule.text).say, "rounds")

    def test_answers_are_of_the_bench_as_it_is(self):
        desk = desk_of(FIRST)
        said = [desk.say(line) for line in (
            "lets - s", "turn", "lets - s", "lets - f", "undo", "lets - s", "meet " + SURE.text.replace("\n", ";"), "rounds", "begins f", "begins n",
            "undo", "rounds", "begins f")]
        self.assertEqual(said, ["yes", "ok", "no", "yes", "ok", "yes", "ok", "1", "no", "yes", "ok", "none", "yes"])


class Refused(Case):
    def test_no_forms(self):
        desk = Desk(WHOLE)
        desk.say("undo")
        kept = as_it_is(desk.bench)
        near = [
            "", " ", "-", "turn ", " turn", "turn turn", "Turn", "turns", "turn\n", "\nturn", "undo ", " undo", "undo undo", "undo 1", "Undo", "undo\n",
            "redo ", " redo", "redo redo", "Redo", "verdict ", " verdict", "verdict yes", "Verdict", "verdict\n", "rounds ", " rounds", "rounds 3", "round",
            "Rounds", "rounds\n", "bar", "bar ", "bar n", "bar n ", "bar  n", "bar  n s", "bar n  s", "bar n s ", "bar n s n", " bar n s", "bar n s\n",
            "bar  ", "Bar n s", "barn s", "lets", "lets ", "lets n", "lets n ", "lets  n", "lets  n s", "lets n  s", "lets n s ", "lets n s n", " lets n s",
            "lets n s\n", "lets\nn s", "Lets n s", "lets  ", "let n s", "begins", "begins ", "begins  n", "begins n ", "begins n n", " begins n", "begins n\n",
            "begins  ", "Begins n", "begin n", "meet", "meet ", " meet " + FLAT, "meet\n" + HEARD, "meet " + HEARD, "meet " + FLAT + "\n", "Meet " + FLAT,
            "meet" + FLAT, "widen", "widen ", " widen " + FLAT, "widen " + HEARD, "widen\n", "Widen " + FLAT, "bench", "law", "journal", "done", "keep", "trial",
            "copy", "tried", "say", "some", "after n", "verdict\nverdict", "turn\nturn", "n s", "lets\tn\ts", "begins\tn", "bar - n\n", "meet\t" + FLAT]
        for line in near:
            self.refused(BadWords, line, desk.say, line)
            self.refused(BadWords, line, desk.say, line=line)
        for value in NO_STRINGS + (desk, desk.bench, ["turn"], ("turn",), ("verdict",)):
            self.refused(BadWords, value, desk.say, value)
        self.assertEqual(as_it_is(desk.bench), kept)

    def test_losses_and_words(self):
        desk = Desk(WHOLE)
        desk.say("undo")
        kept = as_it_is(desk.bench)
        for line, value in (
                ("x n", ("x", "n")), ("n x", ("n", "x")), ("- -", ("", "")), ("n -", ("n", "")), ("-- n", ("--", "n")), ("n -n", ("n", "-n")), ("N S", ("N", "S")),
                ("n n,", ("n", "n,")), ("n n;", ("n", "n;")), ("- " + "n" * 201, ("", "n" * 201)), ("n" * 201 + " s", ("n" * 201, "s")), ("'' n", ("''", "n")),
                ("n\t s", ("n\t", "s"))):
            self.refused(BadLoss, value, desk.say, "lets " + line)
            self.refused(BadLoss, value, desk.say, "bar " + line)
        for word in ("x", "nx", "--", "n-", "-n", "N", "n" * 201, "nfs;", "''", "n\t", "None", "0"):
            self.refused(BadWord, word, desk.say, "begins " + word)
        self.assertEqual(as_it_is(desk.bench), kept)

    def test_laws(self):
        desk = Desk(WHOLE)
        desk.say("undo")
        kept = as_it_is(desk.bench)
        for line, number in (("law", 2), (" " + FLAT, 1), (FLAT + " ", 9), (FLAT + ";", 10), (";", 1), ("-", 1), (FLAT.replace(";", ";;"), 2),
                             (FLAT.replace("on n b", "on n c"), 3), ("  ", 1), (" ", 1), (FLAT.replace(";", " ; "), 1), (FLAT + ";turn", 10), ("turn", 1)):
            self.refused(BadLaw, number, desk.say, "meet " + line)
            self.refused(BadLaw, number, desk.say, "widen " + line)
        self.assertEqual(as_it_is(desk.bench), kept)

    def test_nothing_to_undo_or_redo(self):
        desk = desk_of(HEARD)
        self.refused(NothingToUndo, None, desk.say, "undo")
        self.refused(NothingToRedo, None, desk.say, "redo")
        desk.say("turn")
        self.refused(NothingToRedo, None, desk.say, "redo")
        desk.say("undo")
        self.refused(NothingToUndo, None, desk.say, line="undo")
        self.refused(BadWords, "redo ", desk.say, "redo ")
        self.refused(BadLoss, ("x", "y"), desk.say, "bar x y")
        self.assertEqual(desk.say("redo"), "ok")

    def test_too_many(self):
        desk = desk_of(ring(33).rule.text)
        desk.say("turn")
        kept = as_it_is(desk.bench)
        self.refused(TooMany, 66, desk.say, "bar - n")
        self.refused(TooMany, 66, desk.say, "widen " + ring(2).rule.text.replace("\n", ";"))
        with self.assertRaises(TooMany) as caught:
            both(desk.bench.rule, ring(2).rule)
        self.refused(TooMany, caught.exception.value, desk.say, "meet " + ring(2).rule.text.replace("\n", ";"))
        self.assertEqual(as_it_is(desk.bench), kept)
